/-
  THE CONTRACTS OF THE DOCUMENT'S Check, Same of strings. Strings of at most 1000000 bytes.
-/
import Derived.Test.YtacllgglpjdobaaDoorNamD
namespace Go.Proofs.YtacllgglpjdobaaDoor
open Go.RowKit Go.Shelf
set_option maxRecDepth 1000000
set_option linter.unusedVariables false

/-- the error's number -/
def nokE (l : List UInt8) : Int := if nok l = true then 0 else 40
theorem nokE_ok {l : List UInt8} (h : nok l = true) : nokE l = 0 := if_pos h
theorem nokE_no {l : List UInt8} (h : nok l = false) : nokE l = 40 := if_neg (by rw [h]; decide)
theorem nok_no_len {l : List UInt8} (h : l.length < 1 ∨ 255 < l.length) : nok l = false := by
  cases hb : nok l with
  | false => rfl
  | true =>
    rw [nok_iff] at hb
    have := List.length_pos_iff.2 hb.1
    omega
theorem nok_no_oks {l : List UInt8} (h : oks l = false) : nok l = false := by
  cases hb : nok l with
  | false => rfl
  | true => rw [nok_iff, h] at hb; exact absurd hb.2.2.1 (by decide)
theorem nok_no_part {l : List UInt8} {k : Nat} (hk : k < (spl l).length) (h : okp ((spl l).getD k []) = false) : nok l = false := by
  cases hb : nok l with
  | false => rfl
  | true =>
    rw [nok_iff] at hb
    have hm : (spl l).getD k [] ∈ spl l := by
      rw [List.getD_eq_getElem?_getD, List.getElem?_eq_getElem hk]
      exact List.getElem_mem hk
    rw [hb.2.2.2 _ hm] at h
    exact absurd h (by decide)
theorem nok_yes {l : List UInt8} (h1 : 1 ≤ l.length) (h2 : l.length ≤ 255) (h3 : oks l = true) (h4 : ∀ k, k < (spl l).length → okp ((spl l).getD k []) = true) : nok l = true := by
  rw [nok_iff]
  refine ⟨List.length_pos_iff.1 h1, h2, h3, fun p hp => ?_⟩
  obtain ⟨k, hk, e⟩ := List.getElem_of_mem hp
  have := h4 k hk
  rw [List.getD_eq_getElem?_getD, List.getElem?_eq_getElem hk] at this
  simp only [Option.getD_some] at this
  rw [e] at this
  exact this
theorem oks_bad {l : List UInt8} {pos : Nat} (hp : pos < l.length) (h : oks l = oks (l.drop pos)) (hb : okc (dec (l.drop pos)).1 = false) : oks l = false := by
  have hne : l.drop pos ≠ [] := by
    intro e
    have := congrArg List.length e
    rw [List.length_drop, List.length_nil] at this
    omega
  rw [h, oks_step hne, hb, Bool.false_and]
theorem oks_good {l : List UInt8} {pos : Nat} (hp : pos < l.length) (h : oks l = oks (l.drop pos)) (hb : okc (dec (l.drop pos)).1 = true) : oks l = oks (l.drop (pos + (dec (l.drop pos)).2)) ∧ 1 ≤ (dec (l.drop pos)).2 ∧ pos + (dec (l.drop pos)).2 ≤ l.length := by
  have hne : l.drop pos ≠ [] := by
    intro e
    have := congrArg List.length e
    rw [List.length_drop, List.length_nil] at this
    omega
  have hs := stp_pos _ hne
  rw [List.length_drop] at hs
  refine ⟨?_, hs.1, by omega⟩
  rw [h, oks_step hne, hb, Bool.true_and, List.drop_drop]
theorem toList_S2 (p : List UInt8) : (S p).toList = p := by rw [ByteArray.toList_eq]; exact toList_S p
theorem spl_len (l : List UInt8) : (spl l).length ≤ l.length + 1 := by
  induction l with
  | nil => simp [spl]
  | cons x r ih =>
    by_cases h : x = 47
    · subst h
      simp only [spl, if_true, List.length_cons]
      omega
    · obtain ⟨p, q, h1, h2⟩ := spl_cons h r
      rw [h2]
      rw [h1] at ih
      simp only [List.length_cons] at ih ⊢
      omega
set_option maxHeartbeats 8000000 in
theorem RCheck_c (l : List UInt8) (hl : l.length ≤ 1000000) (w : World) :
    Calls Tryd.prog 35 #[.string (S l)] w fun e w' => e = .returned (.int .i64 (nokE l)) ∧ Below w.heap.size w w' := by
  have hsz : (S l).size = l.length := S_size l
  have HR := Lib.hid (fun a ha W => Rune_c l a ha hl W)
  have HP := Lib.hid (fun W => RParts_c l hl W)
  obtain ⟨z, hz⟩ : ∃ z, z = nokE l := ⟨_, rfl⟩
  rw [← hz]
  have HZ := Lib.hid hz
  generalize S l = s at *
  obtain ⟨L, hL⟩ : ∃ L, L = l.length := ⟨_, rfl⟩
  rw [← hL] at hl hsz
  have HL := Lib.hid hL
  clear hL hz
  by_cases h1 : L < 1
  · have hzz : Hid (z = 40) := by unfold Hid; rw [HZ.out]; exact nokE_no (nok_no_len (.inl (by rw [← HL.out]; exact h1)))
    go_enter Tryd.func35, Tryd.ntmps35
    go_wp2
    go_ret
    rw [hzz.out]
    exact ⟨rfl, Below.refl _ _⟩
  by_cases h2 : 255 < L
  · have hzz : Hid (z = 40) := by unfold Hid; rw [HZ.out]; exact nokE_no (nok_no_len (.inr (by rw [← HL.out]; exact h2)))
    go_enter Tryd.func35, Tryd.ntmps35
    go_wp2
    go_ret
    rw [hzz.out]
    exact ⟨rfl, Below.refl _ _⟩
  go_enter Tryd.func35, Tryd.ntmps35
  go_wp2
  go_loopw [3, 4, 5] (fun a _ _ wr => ∃ pos : Nat, a = .int .i64 (pos : Int) ∧ pos ≤ L ∧ Hid (oks l = oks (l.drop pos)) ∧ w = wr) (fun a _ _ _ => 300 - (intOf a).toNat)
  case atStart => exact ⟨0, rfl, by omega, by rw [List.drop_zero]; exact rfl, rfl⟩
  case round =>
    obtain ⟨pos, rfl, hpl, hok, rfl⟩ := hrel
    by_cases hp : pos < L
    · have hpi : (pos : Int) < (L : Int) := by omega
      have HRR := Lib.hid (HR.out pos (by rw [← HL.out]; exact hp) w)
      have HB : Hid (okc (dec (l.drop pos)).1 = false → z = 40) := fun h => by rw [HZ.out]; exact nokE_no (nok_no_oks (oks_bad (by rw [← HL.out]; exact hp) hok.out h))
      have HG : Hid (okc (dec (l.drop pos)).1 = true → oks l = oks (l.drop (pos + (dec (l.drop pos)).2)) ∧ 1 ≤ (dec (l.drop pos)).2 ∧ pos + (dec (l.drop pos)).2 ≤ L) := fun h => by
        have := oks_good (by rw [← HL.out]; exact hp) hok.out h
        rw [HL.out]
        exact this
      have HI := Lib.hid (rfr_ok (l.drop pos))
      generalize okc (dec (l.drop pos)).1 = bb at *
      generalize (dec (l.drop pos)).2 = k at *
      generalize rfr (l.drop pos) = rv at *
      by_cases hbad : (rv < 32 ∨ (127 ≤ rv ∧ rv ≤ 159) ∨ rv = 92 ∨ rv = 58 ∨ rv = 65533)
      · have hz40 := Lib.hid (HB.out (HI.out.1 hbad))
        clear HB HG
        by_cases g1 : rv < 32
        · clear hbad
          go_wp2_with fail
          refine HRR.out.mono ?_
          rintro e w2 ⟨rfl, rfl⟩
          go_wp2
          go_ret
          rw [hz40.out]
          exact ⟨rfl, Below.refl _ _⟩
        · by_cases g2 : 127 ≤ rv ∧ rv ≤ 159
          · obtain ⟨g2, g3⟩ := g2
            clear hbad
            go_wp2_with fail
            refine HRR.out.mono ?_
            rintro e w2 ⟨rfl, rfl⟩
            go_wp2
            go_ret
            rw [hz40.out]
            exact ⟨rfl, Below.refl _ _⟩
          · rcases (by omega : rv = 92 ∨ rv = 58 ∨ rv = 65533) with g4 | g4 | g4
            all_goals
              subst g4
              clear hbad g2 g1
              go_wp2_with fail
              refine HRR.out.mono ?_
              rintro e w2 ⟨rfl, rfl⟩
              go_wp2
              go_ret
              rw [hz40.out]
              exact ⟨rfl, Below.refl _ _⟩
      · have hbt : bb = true := by
          cases bb with
          | true => rfl
          | false => exact absurd (HI.out.2 rfl) hbad
        obtain ⟨h3, h4, h5⟩ := HG.out hbt
        have H3 := Lib.hid h3
        have b1 : ¬ rv < 32 := by omega
        have b4 : (rv == 92) = false := by rw [beq_eq_false_iff_ne]; omega
        have b5 : (rv == 58) = false := by rw [beq_eq_false_iff_ne]; omega
        have b6 : (rv == 65533) = false := by rw [beq_eq_false_iff_ne]; omega
        rcases (by omega : rv < 127 ∨ (127 ≤ rv ∧ 159 < rv)) with g1 | ⟨g1, g2⟩
        · have b2 : ¬ 127 ≤ rv := by omega
          clear hbad h3 HB HG hbt g1
          go_wp2_with fail
          refine HRR.out.mono ?_
          rintro e w2 ⟨rfl, rfl⟩
          go_wp2
          go_roundw
          case rel => exact ⟨pos + k, by go_num, by omega, H3, by first | exact trivial | rfl⟩
          case measure => simp [intOf]; omega
        · have b2 : ¬ rv ≤ 159 := by omega
          clear hbad h3 HB HG hbt g2
          go_wp2_with fail
          refine HRR.out.mono ?_
          rintro e w2 ⟨rfl, rfl⟩
          go_wp2
          go_roundw
          case rel => exact ⟨pos + k, by go_num, by omega, H3, by first | exact trivial | rfl⟩
          case measure => simp [intOf]; omega
    · obtain rfl : pos = L := by omega
      have hpi : ¬ (pos : Int) < (pos : Int) := by omega
      have HK : Hid (oks l = true) := by
        unfold Hid
        rw [hok.out, List.drop_of_length_le (by rw [HL.out]; exact Nat.le_refl _)]
        rfl
      clear hok
      go_wp2_with fail
      refine (HP.out w).mono ?_
      rintro e w2 ⟨g, n, c, rfl, hown, hb⟩
      have HS := Lib.hid (SRow.of_own hown)
      have HN := Lib.hid (SRow.of_own hown).len
      have HB := Lib.hid hb
      have hn300 : n ≤ 300 := by have h7 := spl_len l; have h8 := HN.out; have h9 := HL.out; omega
      clear hown hb
      go_wp2
      go_loopw [7] (fun i wr => ∃ j : Nat, i = .int .i64 (j : Int) ∧ j ≤ n ∧ Hid (∀ k, k < j → okp ((spl l).getD k []) = true) ∧ w2 = wr) (fun i _ => n - (intOf i).toNat)
      case atStart => exact ⟨0, rfl, by omega, fun k hk => by omega, rfl⟩
      case round =>
        obtain ⟨j, rfl, hjn, hall, rfl⟩ := hrel
        by_cases hlt : j < n
        · have hlti : (j : Int) < (n : Int) := by omega
          obtain ⟨b', off', ea, hc0⟩ := HS.out.at_ hlt
          injection ea with ea
          injection ea with ea1 ea2 _
          subst ea1 ea2
          rw [Nat.zero_add] at hc0
          have HBD : Hid (okp ((spl l).getD j []) = false → z = 40) := fun h => by rw [HZ.out]; exact nokE_no (nok_no_part (by rw [HN.out]; exact hlt) h)
          have HNX : Hid (okp ((spl l).getD j []) = true → ∀ k, k < j + 1 → okp ((spl l).getD k []) = true) := fun h k hk => by
            rcases Nat.lt_or_ge k j with h3 | h3
            · exact hall.out k h3
            · obtain rfl : k = j := by omega
              exact h
          have htl := toList_S2 ((spl l).getD j [])
          generalize (spl l).getD j [] = p at *
          generalize S p = pv at *
          by_cases p0 : p = []
          · have hz40 := Lib.hid (HBD.out (by rw [p0]; rfl))
            subst p0
            clear HBD HNX
            go_wp2
            go_ret
            rw [hz40.out]
            exact ⟨rfl, HB.out⟩
          · by_cases p1 : p = [46]
            · have hz40 := Lib.hid (HBD.out (by rw [p1]; decide))
              subst p1
              clear HBD HNX p0
              go_wp2
              go_ret
              rw [hz40.out]
              exact ⟨rfl, HB.out⟩
            · by_cases p2 : p = [46, 46]
              · have hz40 := Lib.hid (HBD.out (by rw [p2]; decide))
                subst p2
                clear HBD HNX p0 p1
                go_wp2
                go_ret
                rw [hz40.out]
                exact ⟨rfl, HB.out⟩
              · have hnx := Lib.hid (HNX.out (decide_eq_true ⟨p0, p1, p2⟩))
                have q0 : (p == []) = false := by rw [beq_eq_false_iff_ne]; exact p0
                have q1 : (p == [46]) = false := by rw [beq_eq_false_iff_ne]; exact p1
                have q2 : (p == [46, 46]) = false := by rw [beq_eq_false_iff_ne]; exact p2
                clear HBD HNX p0 p1 p2
                go_wp2
                go_roundw
                case rel => exact ⟨j + 1, by go_num, by omega, hnx, by first | exact trivial | rfl⟩
                case measure => simp [intOf]; omega
        · have hlti : ¬ (j : Int) < (n : Int) := by omega
          have hz0 : Hid (z = 0) := by
            unfold Hid
            rw [HZ.out]
            exact nokE_ok (nok_yes (by rw [← HL.out]; omega) (by rw [← HL.out]; omega) HK.out fun k hk => hall.out k (by rw [HN.out] at hk; omega))
          clear hall hlt
          go_wp2
          go_ret
          rw [hz0.out]
          exact ⟨rfl, HB.out⟩
end Go.Proofs.YtacllgglpjdobaaDoor
