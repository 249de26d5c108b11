/-
  LAW 16: NameParts, as a walk. No conditions.
-/
import Derived.Test.YtcodgamhgfafnaaDoorLaw16b
namespace Go.Proofs.YtcodgamhgfafnaaDoor
open Go.RowKit Go.Shelf
set_option maxRecDepth 1000000
set_option linter.unusedVariables false

/-- parts with a / between -/
def jn : List (List UInt8) → List UInt8
  | [] => []
  | [p] => p
  | p :: q :: r => p ++ 47 :: jn (q :: r)
theorem jn_cons {p : List UInt8} {q : List (List UInt8)} (h : q ≠ []) : jn (p :: q) = p ++ 47 :: jn q := by
  cases q with
  | nil => exact absurd rfl h
  | cons a r => rfl
theorem jn_append (A : List (List UInt8)) {B : List (List UInt8)} (hB : B ≠ []) : A ≠ [] → jn (A ++ B) = jn A ++ 47 :: jn B := by
  induction A with
  | nil => intro h; exact absurd rfl h
  | cons p q ih =>
    intro _
    by_cases hq : q = []
    · subst hq
      show jn (p :: B) = p ++ 47 :: jn B
      exact jn_cons hB
    · have h1 : q ++ B ≠ [] := by simp [hq]
      show jn (p :: (q ++ B)) = _
      rw [jn_cons h1, jn_cons hq, ih hq, List.append_assoc]
      rfl
theorem jn_spl (l : List UInt8) : jn (spl l) = l := by
  induction l with
  | nil => rfl
  | cons x r ih =>
    by_cases h : x = 47
    · subst h
      have e : spl (47 :: r) = [] :: spl r := by simp [spl]
      rw [e, jn_cons (spl_ne r), ih]
      rfl
    · obtain ⟨p, q, h1, h2⟩ := spl_cons h r
      rw [h2]
      rw [h1] at ih
      by_cases hq : q = []
      · subst hq
        show x :: p = x :: r
        rw [show jn [p] = p from rfl] at ih
        rw [ih]
      · rw [jn_cons hq] at ih ⊢
        rw [← ih]
        rfl
/-- the first j parts, put together -/
def aj (l : List UInt8) (j : Nat) : List UInt8 := jn ((spl l).take j)
theorem aj_zero (l : List UInt8) : aj l 0 = [] := rfl
theorem aj_all (l : List UInt8) : aj l (spl l).length = l := by unfold aj; rw [List.take_of_length_le (Nat.le_refl _), jn_spl]
theorem take_pt {l : List UInt8} {j : Nat} (h : j < (spl l).length) : (spl l).take (j + 1) = (spl l).take j ++ [pt l j] := take_snocS h
theorem aj_one {l : List UInt8} (h : 0 < (spl l).length) : aj l 1 = pt l 0 := by
  unfold aj
  rw [take_pt h]
  rfl
theorem take_ne {l : List UInt8} {j : Nat} (h0 : 0 < j) (h : j ≤ (spl l).length) : (spl l).take j ≠ [] := by
  intro e
  have := congrArg List.length e
  rw [List.length_take, List.length_nil] at this
  omega
theorem aj_succ {l : List UInt8} {j : Nat} (h0 : 0 < j) (h : j < (spl l).length) : aj l (j + 1) = (aj l j ++ [47]) ++ pt l j := by
  unfold aj
  rw [take_pt h, jn_append _ (by simp) (take_ne h0 (by omega)), List.append_assoc]
  rfl
theorem aj_cut {l : List UInt8} {j : Nat} (h0 : 0 < j) (h : j < (spl l).length) : ∃ r, l = aj l j ++ 47 :: r := by
  refine ⟨jn ((spl l).drop j), ?_⟩
  have hd : (spl l).drop j ≠ [] := by
    intro e
    have := congrArg List.length e
    rw [List.length_drop, List.length_nil] at this
    omega
  have := jn_append ((spl l).take j) hd (take_ne h0 (by omega))
  rw [List.take_append_drop, jn_spl] at this
  exact this
/-- each part of a right name is right -/
theorem nok_parts : ∀ (n : Nat) (l : List UInt8), l.length ≤ n → nok l = true → ∀ p ∈ spl l, nok p = true := by
  intro n
  induction n with
  | zero =>
    intro l hl hk
    obtain rfl : l = [] := List.length_eq_zero_iff.1 (by omega)
    exact absurd hk (by decide)
  | succ n ih =>
    intro l hl hk p hp
    obtain ⟨a, r, ha, h | h⟩ := spl_first l
    · obtain ⟨rfl, h2, _⟩ := h
      rw [h2, List.mem_singleton] at hp
      rw [hp]
      exact hk
    · obtain ⟨rfl, h2⟩ := h
      obtain ⟨k1, k2⟩ := nok_cut hk
      rw [h2, List.mem_cons] at hp
      rcases hp with rfl | hp
      · exact k1
      · exact ih r (by rw [List.length_append, List.length_cons] at hl; omega) k2 p hp
theorem nok_pt {l : List UInt8} (h : nok l = true) {j : Nat} (hj : j < (spl l).length) : nok (pt l j) = true := by
  refine nok_parts _ l (Nat.le_refl _) h _ ?_
  unfold pt
  rw [List.getD_eq_getElem?_getD, List.getElem?_eq_getElem hj]
  exact List.getElem_mem hj
theorem preB_app (a r : List UInt8) : preB (a ++ r) a = true := by
  unfold preB
  rw [decide_eq_true (by rw [List.length_append]; omega), Bool.true_and, List.take_left]
  exact beq_self_eq_true a
theorem und_aj {l : List UInt8} (h : nok l = true) {j : Nat} (h0 : 0 < j) (hj : j < (spl l).length) : undB l (aj l j) = true := by
  obtain ⟨r, hr⟩ := aj_cut h0 hj
  obtain ⟨a, ha⟩ : ∃ a, a = aj l j := ⟨_, rfl⟩
  rw [← ha] at hr ⊢
  have h2 := h
  rw [hr] at h2
  have h3 := (nok_cut h2).1
  unfold undB
  rw [h, h3, hr]
  have e : a ++ 47 :: r = (a ++ [47]) ++ r := by simp
  rw [e, preB_app]
  rfl
theorem aj_take {l : List UInt8} {j : Nat} (h0 : 0 < j) (hj : j < (spl l).length) : (aj l j).length ≤ l.length ∧ l.take (aj l j).length = aj l j := by
  obtain ⟨r, hr⟩ := aj_cut h0 hj
  obtain ⟨a, ha⟩ : ∃ a, a = aj l j := ⟨_, rfl⟩
  rw [← ha] at hr ⊢
  rw [hr, List.length_append]
  exact ⟨by omega, List.take_left⟩
set_option maxHeartbeats 8000000 in
theorem walk_NameParts (w : World) (_ : True) (s0 : ByteArray) (_ : s0.size ≤ maxLen) :
    Calls Tryd.prog 5 #[.string s0] w fun e w' => e = .returned (.bool true) ∧ Below w.heap.size w w' := by
  obtain ⟨l, rfl⟩ := of_S s0
  have z1 := S_size l
  by_cases hl : 300 < l.length
  · generalize S l = s at *
    go_enter Tryd.func5, Tryd.ntmps5
    go_wp2_with fail
    refine (alive16_c _).mono ?_
    rintro e w1 ⟨rfl, hb⟩
    go_wp2
    go_ret
    exact ⟨rfl, hb⟩
  have HCK := Lib.hid (fun W => Check_c l (by omega) W)
  cases hnk : nok l with
  | false =>
    have hz := nokE_no hnk
    rw [hz] at HCK
    clear hz hnk
    generalize S l = s at *
    go_enter Tryd.func5, Tryd.ntmps5
    go_wp2_with fail
    refine (alive16_c _).mono ?_
    rintro e w1 ⟨rfl, hb⟩
    have B1 := Lib.hid hb
    clear hb
    go_wp2_with fail
    refine (HCK.out w1).mono ?_
    rintro e w2 ⟨rfl, hb⟩
    have B2 := Lib.hid (B1.out.trans (hb.mono B1.out.size))
    clear hb
    go_wp2
    go_ret
    exact ⟨rfl, B2.out⟩
  | true =>
    have hz := nokE_ok hnk
    have hpt : Hid (ptsF l = spl l) := if_pos hnk
    have HNK := Lib.hid hnk
    rw [hz] at HCK
    have HPT := Lib.hid (fun W => Parts_c l (by omega) W)
    have HRU := Lib.hid (fun W => Runes_c l (by omega) W)
    have HFO := Lib.hid (fun W => Fold_c l (by omega) W)
    have HF2 : Hid (∀ W, Calls Tryd.prog 16 #[.string (S (fol l))] W fun e w' => e = .returned (.string (S (fol l))) ∧ Below W.heap.size W w') := fun W => by
      have := Fold_c (fol l) (by rw [fol_length]; omega) W
      rw [fol_fol] at this
      exact this
    have HC2 : Hid (∀ W, Calls Tryd.prog 11 #[.string (S (fol l))] W fun e w' => e = .returned (.int .i64 0) ∧ Below W.heap.size W w') := fun W => by
      have := Check_c (fol l) (by rw [fol_length]; omega) W
      rw [nokE_ok (by rw [nok_fol]; exact hnk)] at this
      exact this
    have HR2 : Hid (∀ W, Calls Tryd.prog 14 #[.string (S (fol l))] W fun e w' => e = .returned (.int .i64 (cnt l : Nat)) ∧ Below W.heap.size W w') := fun W => by
      have := Runes_c (fol l) (by rw [fol_length]; omega) W
      rw [(oks_fol _ l (Nat.le_refl _)).2] at this
      exact this
    have hfs : (S (fol l)).size = (S l).size := by rw [S_size, S_size, fol_length]
    have HCP : Hid (∀ j, j < (spl l).length → ∀ W, Calls Tryd.prog 11 #[.string (S (pt l j))] W fun e w' => e = .returned (.int .i64 0) ∧ Below W.heap.size W w') := fun j hj W => by
      have hn := nok_pt hnk hj
      have := Check_c (pt l j) (by have := ((nok_iff _).1 hn).2.1; omega) W
      rw [nokE_ok hn] at this
      exact this
    have HUN : Hid (∀ j, 0 < j → j < (spl l).length → ∀ W, Calls Tryd.prog 18 #[.string (S l), .string (S (aj l j))] W fun e w' => e = .returned (.bool true) ∧ Below W.heap.size W w') := fun j h0 hj W => by
      have := Under_c l (aj l j) (by omega) (by have := (aj_take h0 hj).1; omega) W
      rw [und_aj hnk h0 hj] at this
      exact this
    have HEX : Hid (∀ j, 0 < j → j < (spl l).length → (S l).extract 0 (aj l j).length = S (aj l j) ∧ (aj l j).length ≤ l.length) := fun j h0 hj => by
      obtain ⟨h1, h2⟩ := aj_take h0 hj
      refine ⟨?_, h1⟩
      rw [S_extract _ _ _ h1, List.drop_zero, h2]
    have HNL := Lib.hid (spl_len l)
    have HPL : Hid (∀ j, j < (spl l).length → (pt l j).length ≤ 255) := fun j hj => ((nok_iff _).1 (nok_pt hnk hj)).2.1
    have HALL : Hid (aj l (spl l).length = l) := aj_all l
    have hts : (S l).toList = (S l).toList := rfl
    clear hz hnk hts
    obtain ⟨s, hs⟩ : ∃ s, s = S l := ⟨_, rfl⟩
    rw [← hs] at z1 HCK HPT HRU HFO hfs HUN HEX ⊢
    have HSL := Lib.hid hs
    clear hs
    generalize S (fol l) = fv at *
    go_enter Tryd.func5, Tryd.ntmps5
    go_wp2_with fail
    refine (alive16_c _).mono ?_
    rintro e w1 ⟨rfl, hb⟩
    have B1 := Lib.hid hb
    clear hb
    go_wp2_with fail
    refine (HCK.out w1).mono ?_
    rintro e w2 ⟨rfl, hb⟩
    have B2 := Lib.hid (B1.out.trans (hb.mono B1.out.size))
    clear hb
    go_wp2_with fail
    refine (HPT.out w2).mono ?_
    rintro e w3 ⟨A, n, c, rfl, hown, hb⟩
    have B3 := Lib.hid (B2.out.trans (hb.mono B2.out.size))
    rw [hpt.out] at hown
    have HS := Lib.hid (SRow.of_own hown)
    have HN := Lib.hid (SRow.of_own hown).len
    have hn : n ≤ 1000 := by have h7 := HNL.out; have h8 := HN.out; omega
    clear hb hown
    go_wp2
    go_loopw [3, 20] (fun a i wr => ∃ j : Nat, i = .int .i64 (j : Int) ∧ a = .string (S (aj l j)) ∧ j ≤ n ∧ Hid (Below w3.heap.size w3 wr)) (fun _ i _ => n - (intOf i).toNat)
    case atStart => exact ⟨0, rfl, rfl, by omega, Below.refl _ _⟩
    case round =>
      obtain ⟨j, rfl, rfl, hjn, hb⟩ := hrel
      by_cases hlt : j < n
      · have hlti : (j : Int) < (n : Int) := by omega
        have hjs : j < (spl l).length := by rw [HN.out]; exact hlt
        obtain ⟨b1, o1, rfl, c1⟩ := (HS.out.below hb.out).at_ hlt
        have c2 : wr.cell? ⟨b1, o1 + j, none⟩ = some (.string (S (pt l j))) := c1
        clear c1
        have HCPj := Lib.hid (HCP.out j hjs)
        have hpl := HPL.out j hjs
        have hps := S_size (pt l j)
        obtain ⟨nv, hnv⟩ : ∃ nv, nv = S (aj l (j + 1)) := ⟨_, rfl⟩
        obtain ⟨q, hq⟩ : ∃ q, q = (pt l j).length := ⟨_, rfl⟩
        rw [← hq] at hpl hps
        by_cases h0 : j = 0
        · have hone : S (aj l j) ++ S (pt l j) = nv := by
            subst h0
            rw [hnv, S_add, aj_zero, List.nil_append, aj_one (by omega)]
          have hez : (S (aj l j)).size = 0 := by subst h0; rfl
          have hj0 : ¬ (0 : Int) < (j : Int) := by omega
          have HNV := Lib.hid hnv
          generalize S (aj l j) = av at *
          generalize S (pt l j) = pv at *
          clear hnv hq h0
          go_wp2_with fail
          refine (HCPj.out _).mono ?_
          rintro e w4 ⟨rfl, hb4⟩
          have HB4 := Lib.hid (hb.out.trans (hb4.mono hb.out.size))
          clear hb4
          go_wp2
          go_roundw
          case rel => exact ⟨j + 1, by go_num, by rw [HNV.out], by omega, HB4.out⟩
          case measure => simp [intOf]; omega
        · have h0' : 0 < j := by omega
          have hadd1 : S (aj l j) ++ (⟨#[47]⟩ : ByteArray) = S (aj l j ++ [47]) := S_add _ [47]
          have hadd2 : S (aj l j ++ [47]) ++ S (pt l j) = nv := by rw [hnv, S_add, aj_succ h0' hjs]
          obtain ⟨hx1, hx2⟩ := HEX.out j h0' hjs
          have ht : nv.size = (aj l j).length + 1 + q := by
            rw [hnv, S_size, aj_succ h0' hjs, List.length_append, List.length_append, hq]
            rfl
          have hs1 := S_size (aj l j)
          have hs2 := S_size (aj l j ++ [47])
          rw [List.length_append, List.length_singleton] at hs2
          have HU := Lib.hid (HUN.out j h0' hjs)
          have HNV := Lib.hid hnv
          obtain ⟨m, hm⟩ : ∃ m, m = (aj l j).length := ⟨_, rfl⟩
          rw [← hm] at hx1 hx2 ht hs1 hs2
          obtain ⟨t, htt⟩ : ∃ t, t = m + 1 + q := ⟨_, rfl⟩
          rw [← htt] at ht
          have hex : s.extract 0 (t - q - 1) = S (aj l j) := by
            have e : t - q - 1 = m := by omega
            rw [e]
            exact hx1
          have hb1 : (0 : Int) ≤ (t : Int) - (q : Int) - 1 := by omega
          have hb2 : (t : Int) - (q : Int) - 1 ≤ (l.length : Int) := by omega
          have hm3 : m ≤ 300 := by omega
          have ht3 : t ≤ 1000 := by omega
          have hj0 : (0 : Int) < (j : Int) := by omega
          generalize S (aj l j ++ [47]) = av2 at *
          generalize S (aj l j) = av at *
          generalize S (pt l j) = pv at *
          clear hnv hq h0 hm htt hx1 hx2
          go_wp2_with fail
          refine (HCPj.out _).mono ?_
          rintro e w4 ⟨rfl, hb4⟩
          have HB4 := Lib.hid (hb.out.trans (hb4.mono hb.out.size))
          clear hb4
          go_wp2_with fail
          refine (HU.out _).mono ?_
          rintro e w5 ⟨rfl, hb5⟩
          have HB5 := Lib.hid (HB4.out.trans (hb5.mono HB4.out.size))
          clear hb5
          go_wp2
          go_roundw
          case rel => exact ⟨j + 1, by go_num, by rw [HNV.out], by omega, HB5.out⟩
          case measure => simp [intOf]; omega
      · obtain rfl : j = n := by omega
        have hlti : ¬ (j : Int) < (j : Int) := by omega
        have hfin : S (aj l j) = s := by rw [← HN.out, HALL.out]; exact HSL.out.symm
        rw [hfin]
        have HB := Lib.hid (B3.out.trans (hb.out.mono B3.out.size))
        clear hfin
        go_wp2_with fail
        refine (HFO.out _).mono ?_
        rintro e w4 ⟨rfl, hb4⟩
        have HB4 := Lib.hid (HB.out.trans (hb4.mono HB.out.size))
        clear hb4
        go_wp2_with fail
        refine (HC2.out _).mono ?_
        rintro e w5 ⟨rfl, hb5⟩
        have HB5 := Lib.hid (HB4.out.trans (hb5.mono HB4.out.size))
        clear hb5
        go_wp2_with fail
        refine (HF2.out _).mono ?_
        rintro e w6 ⟨rfl, hb6⟩
        have HB6 := Lib.hid (HB5.out.trans (hb6.mono HB5.out.size))
        clear hb6
        go_wp2_with fail
        refine (HR2.out _).mono ?_
        rintro e w7 ⟨rfl, hb7⟩
        have HB7 := Lib.hid (HB6.out.trans (hb7.mono HB6.out.size))
        clear hb7
        go_wp2_with fail
        refine (HRU.out _).mono ?_
        rintro e w8 ⟨rfl, hb8⟩
        have HB8 := Lib.hid (HB7.out.trans (hb8.mono HB7.out.size))
        clear hb8
        go_wp2
        go_ret
        exact ⟨rfl, HB8.out⟩
end Go.Proofs.YtcodgamhgfafnaaDoor
