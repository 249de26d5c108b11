/-
  LAW 21: VolumeCuts. No conditions. (WRITTEN by wip/gen21a.py.)
-/
import Derived.Test.YtblbedffoeomeaaLaw21
namespace Go.Proofs.Ytblbedffoeomeaa
open Go.RowKit
set_option maxRecDepth 100000
set_option linter.unusedVariables false

theorem SameV_c (A B : Option Addr) (n m ca cb : Nat) (a b : List F) (w : World) (ha : Row w A n a) (hb : Row w B m b) :
    Calls Try.prog 21 #[.slice A n ca, .slice B m cb] w fun e w' => e = .returned (.bool (decide (a = b))) ∧ ∃ q, w' = w.drewN q := by
  by_cases h : n = m
  · subst h
    exact Same_d A B n ca cb a b w ha hb
  · have hne : a ≠ b := fun e => h (by rw [← ha.len, ← hb.len, e])
    rw [decide_eq_false hne]
    refine (Same_len A B n m ca cb w h ha.max hb.max).mono ?_
    rintro e _ ⟨rfl, rfl⟩
    exact ⟨rfl, 0, rfl⟩
theorem SameE_c (A B : Option Addr) (n m ca cb : Nat) (a b : List F) (w : World) (ha : Row w A n a) (hb : Row w B m b) (he : a = b) :
    Calls Try.prog 21 #[.slice A n ca, .slice B m cb] w fun e w' => e = .returned (.bool true) ∧ ∃ q, w' = w.drewN q := by
  have h := SameV_c A B n m ca cb a b w ha hb
  rw [decide_eq_true he] at h
  exact h
/-- of whatever two numbers -/
def ByN (w : World) (T : Nat) (J : List F) (a0 m0 : Nat) (e : Ending) (w' : World) : Prop :=
  ∃ (A' : Option Addr) (L c' : Nat), e = .returned (.tuple #[.slice A' L c', .bool (decide (a0 + m0 ≤ T))]) ∧ RowIn w' A' L c' (if a0 + m0 ≤ T then cutF J a0 m0 else []) ∧ Below w.heap.size w w'
theorem Bytes_n {w : World} {A : Option Addr} {n cap : Nat} {RA : Nat → Option Addr} {RL RC : Nat → Nat} {R : Nat → List F} (h : MIn w A n cap RA RL RC R) (hn : n ≤ 1000) (hl : ∀ r, r < n → RL r ≤ 100000) (T : Nat) (hT : lenTo RL n = T) (J : List F) (hJ : joinTo R n = J) (a m : Int) (a0 m0 : Nat) (ha : a = (a0 : Int)) (hm : m = (m0 : Int)) (hb1 : a0 ≤ 100000) (hb2 : m0 ≤ 100000) :
    Calls Try.prog 20 #[.slice A n cap, .int .i64 a, .int .i64 m] w fun e w' => ByN w T J a0 m0 e w' := by
  have wf : ∀ k : Nat, k ≤ 100000 → (Lit.int .i64 (k : Int)).wf = true := fun k hk => by
    have hmin : IntKind.i64.min = -9223372036854775808 := rfl
    have hmax : IntKind.i64.max = 9223372036854775807 := rfl
    simp only [Lit.wf, Bool.and_eq_true, decide_eq_true_eq]
    omega
  subst ha hm hT hJ
  refine (Bytes_c h hn hl _ _ (wf _ hb1) (wf _ hb2)).mono ?_
  rintro e w' (⟨a1, m1, A', c', e1, e2, h3, rfl, hr, hb⟩ | ⟨hno, rfl, hb⟩)
  · obtain rfl : a0 = a1 := by omega
    obtain rfl : m0 = m1 := by omega
    exact ⟨A', m0, c', by rw [decide_eq_true h3], by rw [if_pos h3]; exact hr, hb⟩
  · have h3 : ¬ a0 + m0 ≤ lenTo RL n := by omega
    exact ⟨none, 0, 0, by rw [decide_eq_false h3], by rw [if_neg h3]; exact RowIn.nil_ _, hb⟩
theorem cutF_two (J : List F) (a m n : Nat) : cutF J a (m + n) = cutF J a m ++ cutF J (a + m) n := by
  unfold cutF
  have h := List.take_append_drop m ((J.drop a).take (m + n))
  rw [List.take_take, Nat.min_eq_left (by omega), List.drop_take, List.drop_drop, Nat.add_sub_cancel_left] at h
  exact h.symm
theorem joinTo_drop {RL : Nat → Nat} {R : Nat → List F} {n : Nat} (h : ∀ r, r < n → (R r).length = RL r) {d o : Nat} (hd : d < n) (ho : o < RL d) : cutF (joinTo R n) (lenTo RL d + o) (RL d - o) = (R d).drop o := by
  have key : ∀ k, d < k → k ≤ n → cutF (joinTo R k) (lenTo RL d + o) (RL d - o) = (R d).drop o := by
    intro k
    induction k with
    | zero => intro h1; omega
    | succ k ih =>
      intro h1 h2
      have hl := joinTo_length h k (by omega)
      by_cases e : d = k
      · subst e
        show cutF (joinTo R d ++ R d) _ _ = _
        rw [cutF_more, hl]
        have e1 : cutF (joinTo R d) (lenTo RL d + o) (RL d - o) = [] := by
          unfold cutF
          rw [List.drop_eq_nil_of_le (by omega), List.take_nil]
        rw [e1, List.nil_append, Nat.add_sub_cancel_left]
        apply List.take_of_length_le
        rw [List.length_drop, h d hd]
        exact Nat.le_refl _
      · show cutF (joinTo R k ++ R k) _ _ = _
        have h3 := ih (by omega) (by omega)
        rw [cutF_more, h3]
        have hle : (((R d).drop o)).length = RL d - o := by rw [List.length_drop, h d hd]
        rw [hle, Nat.sub_self, List.take_zero, List.append_nil]
  exact key n hd (Nat.le_refl _)
theorem RsS.cut {RL : Nat → Nat} {R : Nat → List F} {n : Nat} {a0 : Nat} {l : List F} (hr : ∀ r, r < n → (R r).length = RL r) (h : RsS RL R n (a0 : Int) l) (hl : l ≠ []) : a0 + l.length ≤ lenTo RL n ∧ cutF (joinTo R n) a0 l.length = l := by
  rcases h with ⟨d, o, hd, ho, he, rfl⟩ | ⟨_, e⟩
  · have he2 : a0 = lenTo RL d + o := by omega
    have hle : ((R d).drop o).length = RL d - o := by rw [List.length_drop, hr d hd]
    have h1 : lenTo RL (d + 1) ≤ lenTo RL n := lenTo_mono hd
    have h2 : lenTo RL (d + 1) = lenTo RL d + RL d := rfl
    rw [hle, he2]
    exact ⟨by omega, joinTo_drop hr hd ho⟩
  · exact absurd e hl
theorem wf64 {k : Nat} (hk : k ≤ 100000) : (Lit.int .i64 (k : Int)).wf = true := by
  have hmin : IntKind.i64.min = -9223372036854775808 := rfl
  have hmax : IntKind.i64.max = 9223372036854775807 := rfl
  simp only [Lit.wf, Bool.and_eq_true, decide_eq_true_eq]
  omega
set_option maxHeartbeats 8000000 in
theorem cuts_main (w : World) (A : Option Addr) (N cap : Nat) (RA : Nat → Option Addr) (RL RC : Nat → Nat) (R : Nat → List F) (h : MIn w A N cap RA RL RC R) (hf : fewP N RL) (at_ : Int) (ha : (Lit.int .i64 at_).wf = true) (m : Int) (hm : (Lit.int .i64 m).wf = true) (n : Int) (hn : (Lit.int .i64 n).wf = true) (ha2 : 0 ≤ at_ ∧ at_ ≤ 2000) (hm2 : 0 ≤ m ∧ m ≤ 2000) (hn2 : 0 ≤ n ∧ n ≤ 2000) :
    Calls Try.prog 5 #[.slice A N cap, .int .i64 at_, .int .i64 m, .int .i64 n] w fun e w' => e = .returned (.bool true) ∧ Below w.heap.size w w' := by
  obtain ⟨a0, rfl⟩ : ∃ k : Nat, at_ = (k : Int) := ⟨at_.toNat, by omega⟩
  obtain ⟨m0, rfl⟩ : ∃ k : Nat, m = (k : Int) := ⟨m.toNat, by omega⟩
  obtain ⟨n0, rfl⟩ : ∃ k : Nat, n = (k : Int) := ⟨n.toNat, by omega⟩
  have i1 : ¬ ((a0 : Int) < 0) := by omega
  have i2 : ¬ ((m0 : Int) < 0) := by omega
  have i3 : ¬ ((n0 : Int) < 0) := by omega
  have i4 : ¬ ((2000 : Int) < (a0 : Int)) := by omega
  have i5 : ¬ ((2000 : Int) < (m0 : Int)) := by omega
  have i6 : ¬ ((2000 : Int) < (n0 : Int)) := by omega
  have ha9 : a0 ≤ 2000 := by omega
  have hm9 : m0 ≤ 2000 := by omega
  have hn9 : n0 ≤ 2000 := by omega
  have hN : N ≤ 20 := hf.1
  have hl : ∀ r, r < N → RL r ≤ 100000 := fun r hr => by have := hf.2 r hr; omega
  have hl2 : ∀ r, r < N → RL r ≤ 1048576 := fun r hr => by have := hf.2 r hr; omega
  have hT := lenTo_few hf N (Nat.le_refl _)
  have hrl : ∀ r, r < N → (R r).length = RL r := fun r hr => (h.row r hr).row.len
  have hJl := joinTo_length hrl N (Nat.le_refl _)
  have hcut : ∀ l, RsS RL R N (a0 : Int) l → l ≠ [] → a0 + l.length ≤ lenTo RL N ∧ cutF (joinTo R N) a0 l.length = l := fun l h1 h2 => h1.cut hrl h2
  have HCUT := Lib.hid hcut
  obtain ⟨T, eT⟩ : ∃ T, lenTo RL N = T := ⟨_, rfl⟩
  obtain ⟨J, eJ⟩ : ∃ J, joinTo R N = J := ⟨_, rfl⟩
  rw [eT, eJ] at HCUT hJl
  rw [eT] at hT
  have HT := Lib.hid eT
  have HJ := Lib.hid eJ
  have HJL := Lib.hid hJl
  have H := Lib.hid h
  have HL := Lib.hid hl
  have HL2 := Lib.hid hl2
  have HF : Hid (decide (fewP N RL) = true) := decide_eq_true hf
  have s1 : IntKind.i64.wrap ((a0 : Int) + (m0 : Int)) = ((a0 + m0 : Nat) : Int) := by rw [show (a0 : Int) + (m0 : Int) = ((a0 + m0 : Nat) : Int) by omega]; exact IntWalk.i64_in _ (by omega)
  have s2 : IntKind.i64.wrap ((m0 : Int) + (n0 : Int)) = ((m0 + n0 : Nat) : Int) := by rw [show (m0 : Int) + (n0 : Int) = ((m0 + n0 : Nat) : Int) by omega]; exact IntWalk.i64_in _ (by omega)
  have hl9 : ∀ l, RsS RL R N (a0 : Int) l → l.length ≤ 60 := fun l hs => by
    rcases hs with ⟨d, o, hd, ho, _, rfl⟩ | ⟨_, rfl⟩
    · rw [List.length_drop, hrl d hd]
      have := hf.2 d hd
      omega
    · exact Nat.zero_le _
  have HL9 := Lib.hid hl9
  clear h hf ha hm hn ha2 hm2 hn2 hl hl2 hrl hJl hcut eT eJ hl9
  go_enter Try.func5, Try.ntmps5
  go_wp2_with fail
  refine (alive21_c _).mono ?_
  rintro e W1 ⟨rfl, hb1⟩
  have B1 := Lib.hid hb1
  clear hb1
  go_wp2_with (go_at_call 8; refine (few_c (H.out.below B1.out)).mono ?_; rintro e _ ⟨rfl, rfl⟩; rw [HF.out])
  refine (Bytes_n (H.out.below B1.out) (by omega) HL.out T HT.out J HJ.out _ _ a0 m0 rfl rfl (by omega) (by omega)).mono ?_
  rintro e W2 ⟨A2, L2, c2, rfl, hr2, hb2⟩
  have B2 := Lib.hid (B1.out.trans (hb2.mono B1.out.size))
  have R2 := Lib.hid hr2
  clear hr2 hb2 B1
  go_wp2_with fail
  refine (Bytes_n (H.out.below B2.out) (by omega) HL.out T HT.out J HJ.out _ _ (a0 + m0) n0 (by first | rfl | (simp; done) | omega) rfl (by omega) (by omega)).mono ?_
  rintro e W3 ⟨A3, L3, c3, rfl, hr3, hb3⟩
  have B3 := Lib.hid (B2.out.trans (hb3.mono B2.out.size))
  have R2' := Lib.hid (R2.out.below hb3)
  have R3 := Lib.hid hr3
  clear hr3 hb3 B2 R2
  go_wp2_with fail
  refine (Bytes_n (H.out.below B3.out) (by omega) HL.out T HT.out J HJ.out _ _ a0 (m0 + n0) rfl (by first | rfl | (simp; done) | omega) (by omega) (by omega)).mono ?_
  rintro e W4 ⟨A4, L4, c4, rfl, hr4, hb4⟩
  have B4 := Lib.hid (B3.out.trans (hb4.mono B3.out.size))
  have R2 := Lib.hid (R2'.out.below hb4)
  have R3' := Lib.hid (R3.out.below hb4)
  have R4 := Lib.hid hr4
  clear hr4 hb4 B3 R2' R3
  rcases (show a0 + m0 + n0 ≤ T ∨ (a0 + m0 ≤ T ∧ ¬ a0 + m0 + n0 ≤ T) ∨ ¬ a0 + m0 ≤ T by omega) with g1 | ⟨g1, g2⟩ | g1
  · have g3 : a0 + m0 ≤ T := by omega
    have g4 : a0 + (m0 + n0) ≤ T := by omega
    rw [decide_eq_true g1, decide_eq_true g3, decide_eq_true g4]
    rw [if_pos g3] at R2
    rw [if_pos g1] at R3'
    rw [if_pos g4] at R4
    have D3 := Lib.hid g3
    have hl2 := R2.out.row.len
    have hl3 := R3'.out.row.len
    rw [cutF_length] at hl2 hl3
    have b2 : L2 ≤ 2000 := by rw [← hl2]; exact Nat.le_trans (Nat.min_le_left _ _) hm9
    have b3 : L3 ≤ 2000 := by rw [← hl3]; exact Nat.le_trans (Nat.min_le_left _ _) hn9
    have hct := cutF_two J a0 m0 n0
    have HCT := Lib.hid hct
    have hMJ := rows_lit (w := W4) (n := 2) (RA := two' A2 A3) (RL := two' L2 L3) (RC := two' c2 c3) (R := two' (cutF J a0 m0) (cutF J (a0 + m0) n0)) (fun r hr => by
      rcases (show r = 0 ∨ r = 1 by omega) with rfl | rfl
      · exact R2.out
      · exact R3'.out) #[.slice A2 L2 c2, .slice A3 L3 c3] (fun r hr => by
      rcases (show r = 0 ∨ r = 1 by omega) with rfl | rfl <;> rfl) 25 (by unfold maxLen; omega)
    have hba := (Below.refl W4.heap.size W4).alloc (Nat.le_refl _) (.cells #[.slice A2 L2 c2, .slice A3 L3 c3] 25)
    have HMJ := Lib.hid hMJ
    have B5 := Lib.hid (B4.out.trans (hba.mono B4.out.size))
    have R4' := Lib.hid (R4.out.below hba)
    have R2x := Lib.hid (R2.out.below hba)
    clear hMJ hba g1 g3 g4 hl2 hl3 hct B4 R2 R3' R4
    go_wp2_with fail
    refine (Join_c HMJ.out (by omega) (fun r hr => by
      rcases (show r = 0 ∨ r = 1 by omega) with rfl | rfl
      · show L2 ≤ _; omega
      · show L3 ≤ _; omega)).mono ?_
    rintro e W5 ⟨g5, c5, rfl, ho5, hb5⟩
    have B6 := Lib.hid (B5.out.trans (hb5.mono B5.out.size))
    have R4x := Lib.hid (R4'.out.below hb5)
    have R2y := Lib.hid (R2x.out.below hb5)
    have hj5 : joinTo (two' (cutF J a0 m0) (cutF J (a0 + m0) n0)) 2 = cutF J a0 (m0 + n0) := by
      rw [HCT.out]
      show ([] ++ _) ++ _ = _
      rw [List.nil_append]
      rfl
    rw [hj5] at ho5
    have O5 := Lib.hid (own_in ho5)
    clear hb5 hj5 ho5 B5 R4' R2x HMJ
    go_wp2_with fail
    refine (SameE_c _ _ _ _ _ _ _ _ _ R4x.out.row O5.out.row rfl).mono ?_
    rintro e _ ⟨rfl, q5, rfl⟩
    have B7 := Lib.hid (below_drewN B6.out q5)
    have R2z := Lib.hid (R2y.out.drewN q5)
    clear B6 R2y R4x O5
    generalize W5.drewN q5 = W7 at *
    go_wp2_with fail
    refine (Rest_c (H.out.below B7.out) (by omega) HL2.out (a0 : Int) (wf64 (by omega))).mono ?_
    rintro e W8 ⟨A8, N8, c8, l8, rfl, hr8, hs8, hb8⟩
    have hN8 := hr8.row.len
    have h60 := HL9.out l8 hs8
    have HS8 := Lib.hid hs8
    have B8 := Lib.hid (B7.out.trans (hb8.mono B7.out.size))
    have R8 := Lib.hid hr8
    have R2b := Lib.hid (R2z.out.below hb8)
    clear hr8 hb8 hs8 B7 R2z
    have HN8 := Lib.hid hN8
    have n60 : N8 ≤ 60 := by rw [← hN8]; exact h60
    clear hN8 h60
    go_wp2_with fail
    refine (Bytes_n (H.out.below B8.out) (by omega) HL.out T HT.out J HJ.out _ _ a0 N8 rfl rfl (by omega) (by omega)).mono ?_
    rintro e W9 ⟨A9, L9, c9, rfl, hr9, hb9⟩
    have B9 := Lib.hid (B8.out.trans (hb9.mono B8.out.size))
    have R8' := Lib.hid (R8.out.below hb9)
    have R2c := Lib.hid (R2b.out.below hb9)
    have R9 := Lib.hid hr9
    clear hr9 hb9 B8 R8 R2b
    go_wp2_with fail
    refine (Join_c (H.out.below B9.out) (by omega) HL2.out).mono ?_
    rintro e W10 ⟨g10, c10, rfl, ho10, hb10⟩
    rw [HT.out, HJ.out] at ho10
    rw [HT.out]
    have hM1 := rows_lit (w := W10) (n := 1) (RA := fun _ => some ⟨g10, 0, none⟩) (RL := fun _ => T) (RC := fun _ => c10) (R := fun _ => J) (fun r _ => own_in ho10) #[.slice (some ⟨g10, 0, none⟩) T c10] (fun r hr => by rw [show r = 0 by omega]; rfl) 25 (by unfold maxLen; omega)
    have hba := (Below.refl W10.heap.size W10).alloc (Nat.le_refl _) (.cells #[.slice (some ⟨g10, 0, none⟩) T c10] 25)
    have B10 := Lib.hid ((B9.out.trans (hb10.mono B9.out.size)).trans (hba.mono (B9.out.trans (hb10.mono B9.out.size)).size))
    have R8 := Lib.hid ((R8'.out.below hb10).below hba)
    have R2d := Lib.hid ((R2c.out.below hb10).below hba)
    have R9' := Lib.hid ((R9.out.below hb10).below hba)
    have M1 := Lib.hid hM1
    clear ho10 hb10 hM1 hba B9 R8' R2c R9
    have t1 : lenTo (fun _ => T) 1 = T := Nat.zero_add T
    have j1 : joinTo (fun _ => J) 1 = J := List.nil_append J
    have T1 := Lib.hid t1
    have J1 := Lib.hid j1
    clear t1 j1
    go_wp2_with fail
    generalize W10.alloc (.cells #[.slice (some ⟨g10, 0, none⟩) T c10] 25) = W11 at *
    generalize W10.heap.size = g11 at *
    refine (Bytes_n M1.out (by omega) (fun r _ => (show T ≤ 100000 by omega)) T T1.out J J1.out _ _ a0 m0 rfl rfl (by omega) (by omega)).mono ?_
    rintro e W12 ⟨A12, L12, c12, rfl, hr12, hb12⟩
    rw [decide_eq_true D3.out]
    rw [if_pos D3.out] at hr12
    have B12 := Lib.hid (B10.out.trans (hb12.mono B10.out.size))
    have R8' := Lib.hid (R8.out.below hb12)
    have R2e := Lib.hid (R2d.out.below hb12)
    have R9b := Lib.hid (R9'.out.below hb12)
    have M2 := Lib.hid (M1.out.below hb12)
    have R12 := Lib.hid hr12
    clear hr12 hb12 B10 R8 R2d R9' M1
    by_cases hz : N8 = 0
    · have z1 : ((N8 : Int) == 0) = true := by rw [beq_iff_eq]; omega
      clear hz
      go_wp2_with fail
      refine (SameE_c _ _ _ _ _ _ _ _ _ R12.out.row R2e.out.row rfl).mono ?_
      rintro e _ ⟨rfl, q1, rfl⟩
      have B13 := Lib.hid (below_drewN B12.out q1)
      have M3 := Lib.hid (M2.out.drewN q1)
      have H3 := Lib.hid (H.out.below B13.out)
      clear B12 M2
      generalize W12.drewN q1 = W13 at *
      go_wp2_with fail
      refine (Size_c M3.out (by omega) (fun r _ => (show T ≤ 1048576 by omega))).mono ?_
      rintro e _ ⟨rfl, rfl⟩
      rw [T1.out]
      go_wp2_with fail
      refine (Size_c H3.out (by omega) HL2.out).mono ?_
      rintro e _ ⟨rfl, rfl⟩
      rw [HT.out]
      go_wp2
      go_ret
      exact ⟨rfl, B13.out⟩
    · have z1 : ((N8 : Int) == 0) = false := by rw [beq_eq_false_iff_ne]; omega
      have hl8 : l8 ≠ [] := fun e => hz (by rw [← HN8.out, e]; rfl)
      obtain ⟨k1, k2⟩ := HCUT.out l8 HS8.out hl8
      rw [HN8.out] at k1 k2
      rw [decide_eq_true k1]
      rw [if_pos k1, k2] at R9b
      clear hz hl8 k1 k2
      go_wp2_with fail
      refine (SameE_c _ _ _ _ _ _ _ _ _ R9b.out.row R8'.out.row rfl).mono ?_
      rintro e _ ⟨rfl, q0, rfl⟩
      have B13 := Lib.hid (below_drewN B12.out q0)
      have M3 := Lib.hid (M2.out.drewN q0)
      have S1 := Lib.hid (R12.out.drewN q0)
      have S2 := Lib.hid (R2e.out.drewN q0)
      clear B12 M2 R12 R2e R9b R8'
      generalize W12.drewN q0 = W13 at *
      go_wp2_with fail
      refine (SameE_c _ _ _ _ _ _ _ _ _ S1.out.row S2.out.row rfl).mono ?_
      rintro e _ ⟨rfl, q1, rfl⟩
      have B14 := Lib.hid (below_drewN B13.out q1)
      have M4 := Lib.hid (M3.out.drewN q1)
      have H4 := Lib.hid (H.out.below B14.out)
      clear B13 M3
      generalize W13.drewN q1 = W14 at *
      go_wp2_with fail
      refine (Size_c M4.out (by omega) (fun r _ => (show T ≤ 1048576 by omega))).mono ?_
      rintro e _ ⟨rfl, rfl⟩
      rw [T1.out]
      go_wp2_with fail
      refine (Size_c H4.out (by omega) HL2.out).mono ?_
      rintro e _ ⟨rfl, rfl⟩
      rw [HT.out]
      go_wp2
      go_ret
      exact ⟨rfl, B14.out⟩
  · have g4 : ¬ a0 + (m0 + n0) ≤ T := by omega
    rw [decide_eq_true g1, decide_eq_false g2, decide_eq_false g4]
    rw [if_pos g1] at R2
    have D3 := Lib.hid g1
    clear g1 g2 g4 R3' R4
    go_wp2_with fail
    refine (Rest_c (H.out.below B4.out) (by omega) HL2.out (a0 : Int) (wf64 (by omega))).mono ?_
    rintro e W8 ⟨A8, N8, c8, l8, rfl, hr8, hs8, hb8⟩
    have hN8 := hr8.row.len
    have h60 := HL9.out l8 hs8
    have HS8 := Lib.hid hs8
    have B8 := Lib.hid (B4.out.trans (hb8.mono B4.out.size))
    have R8 := Lib.hid hr8
    have R2b := Lib.hid (R2.out.below hb8)
    clear hr8 hb8 hs8 B4 R2
    have HN8 := Lib.hid hN8
    have n60 : N8 ≤ 60 := by rw [← hN8]; exact h60
    clear hN8 h60
    go_wp2_with fail
    refine (Bytes_n (H.out.below B8.out) (by omega) HL.out T HT.out J HJ.out _ _ a0 N8 rfl rfl (by omega) (by omega)).mono ?_
    rintro e W9 ⟨A9, L9, c9, rfl, hr9, hb9⟩
    have B9 := Lib.hid (B8.out.trans (hb9.mono B8.out.size))
    have R8' := Lib.hid (R8.out.below hb9)
    have R2c := Lib.hid (R2b.out.below hb9)
    have R9 := Lib.hid hr9
    clear hr9 hb9 B8 R8 R2b
    go_wp2_with fail
    refine (Join_c (H.out.below B9.out) (by omega) HL2.out).mono ?_
    rintro e W10 ⟨g10, c10, rfl, ho10, hb10⟩
    rw [HT.out, HJ.out] at ho10
    rw [HT.out]
    have hM1 := rows_lit (w := W10) (n := 1) (RA := fun _ => some ⟨g10, 0, none⟩) (RL := fun _ => T) (RC := fun _ => c10) (R := fun _ => J) (fun r _ => own_in ho10) #[.slice (some ⟨g10, 0, none⟩) T c10] (fun r hr => by rw [show r = 0 by omega]; rfl) 25 (by unfold maxLen; omega)
    have hba := (Below.refl W10.heap.size W10).alloc (Nat.le_refl _) (.cells #[.slice (some ⟨g10, 0, none⟩) T c10] 25)
    have B10 := Lib.hid ((B9.out.trans (hb10.mono B9.out.size)).trans (hba.mono (B9.out.trans (hb10.mono B9.out.size)).size))
    have R8 := Lib.hid ((R8'.out.below hb10).below hba)
    have R2d := Lib.hid ((R2c.out.below hb10).below hba)
    have R9' := Lib.hid ((R9.out.below hb10).below hba)
    have M1 := Lib.hid hM1
    clear ho10 hb10 hM1 hba B9 R8' R2c R9
    have t1 : lenTo (fun _ => T) 1 = T := Nat.zero_add T
    have j1 : joinTo (fun _ => J) 1 = J := List.nil_append J
    have T1 := Lib.hid t1
    have J1 := Lib.hid j1
    clear t1 j1
    go_wp2_with fail
    generalize W10.alloc (.cells #[.slice (some ⟨g10, 0, none⟩) T c10] 25) = W11 at *
    generalize W10.heap.size = g11 at *
    refine (Bytes_n M1.out (by omega) (fun r _ => (show T ≤ 100000 by omega)) T T1.out J J1.out _ _ a0 m0 rfl rfl (by omega) (by omega)).mono ?_
    rintro e W12 ⟨A12, L12, c12, rfl, hr12, hb12⟩
    rw [decide_eq_true D3.out]
    rw [if_pos D3.out] at hr12
    have B12 := Lib.hid (B10.out.trans (hb12.mono B10.out.size))
    have R8' := Lib.hid (R8.out.below hb12)
    have R2e := Lib.hid (R2d.out.below hb12)
    have R9b := Lib.hid (R9'.out.below hb12)
    have M2 := Lib.hid (M1.out.below hb12)
    have R12 := Lib.hid hr12
    clear hr12 hb12 B10 R8 R2d R9' M1
    by_cases hz : N8 = 0
    · have z1 : ((N8 : Int) == 0) = true := by rw [beq_iff_eq]; omega
      clear hz
      go_wp2_with fail
      refine (SameE_c _ _ _ _ _ _ _ _ _ R12.out.row R2e.out.row rfl).mono ?_
      rintro e _ ⟨rfl, q1, rfl⟩
      have B13 := Lib.hid (below_drewN B12.out q1)
      have M3 := Lib.hid (M2.out.drewN q1)
      have H3 := Lib.hid (H.out.below B13.out)
      clear B12 M2
      generalize W12.drewN q1 = W13 at *
      go_wp2_with fail
      refine (Size_c M3.out (by omega) (fun r _ => (show T ≤ 1048576 by omega))).mono ?_
      rintro e _ ⟨rfl, rfl⟩
      rw [T1.out]
      go_wp2_with fail
      refine (Size_c H3.out (by omega) HL2.out).mono ?_
      rintro e _ ⟨rfl, rfl⟩
      rw [HT.out]
      go_wp2
      go_ret
      exact ⟨rfl, B13.out⟩
    · have z1 : ((N8 : Int) == 0) = false := by rw [beq_eq_false_iff_ne]; omega
      have hl8 : l8 ≠ [] := fun e => hz (by rw [← HN8.out, e]; rfl)
      obtain ⟨k1, k2⟩ := HCUT.out l8 HS8.out hl8
      rw [HN8.out] at k1 k2
      rw [decide_eq_true k1]
      rw [if_pos k1, k2] at R9b
      clear hz hl8 k1 k2
      go_wp2_with fail
      refine (SameE_c _ _ _ _ _ _ _ _ _ R9b.out.row R8'.out.row rfl).mono ?_
      rintro e _ ⟨rfl, q0, rfl⟩
      have B13 := Lib.hid (below_drewN B12.out q0)
      have M3 := Lib.hid (M2.out.drewN q0)
      have S1 := Lib.hid (R12.out.drewN q0)
      have S2 := Lib.hid (R2e.out.drewN q0)
      clear B12 M2 R12 R2e R9b R8'
      generalize W12.drewN q0 = W13 at *
      go_wp2_with fail
      refine (SameE_c _ _ _ _ _ _ _ _ _ S1.out.row S2.out.row rfl).mono ?_
      rintro e _ ⟨rfl, q1, rfl⟩
      have B14 := Lib.hid (below_drewN B13.out q1)
      have M4 := Lib.hid (M3.out.drewN q1)
      have H4 := Lib.hid (H.out.below B14.out)
      clear B13 M3
      generalize W13.drewN q1 = W14 at *
      go_wp2_with fail
      refine (Size_c M4.out (by omega) (fun r _ => (show T ≤ 1048576 by omega))).mono ?_
      rintro e _ ⟨rfl, rfl⟩
      rw [T1.out]
      go_wp2_with fail
      refine (Size_c H4.out (by omega) HL2.out).mono ?_
      rintro e _ ⟨rfl, rfl⟩
      rw [HT.out]
      go_wp2
      go_ret
      exact ⟨rfl, B14.out⟩
  · have g2 : ¬ a0 + m0 + n0 ≤ T := by omega
    have g4 : ¬ a0 + (m0 + n0) ≤ T := by omega
    rw [decide_eq_false g1, decide_eq_false g2, decide_eq_false g4]
    rw [if_neg g1] at R2
    have D3 := Lib.hid g1
    clear g1 g2 g4 R3' R4
    go_wp2_with fail
    refine (Rest_c (H.out.below B4.out) (by omega) HL2.out (a0 : Int) (wf64 (by omega))).mono ?_
    rintro e W8 ⟨A8, N8, c8, l8, rfl, hr8, hs8, hb8⟩
    have hN8 := hr8.row.len
    have h60 := HL9.out l8 hs8
    have HS8 := Lib.hid hs8
    have B8 := Lib.hid (B4.out.trans (hb8.mono B4.out.size))
    have R8 := Lib.hid hr8
    have R2b := Lib.hid (R2.out.below hb8)
    clear hr8 hb8 hs8 B4 R2
    have HN8 := Lib.hid hN8
    have n60 : N8 ≤ 60 := by rw [← hN8]; exact h60
    clear hN8 h60
    go_wp2_with fail
    refine (Bytes_n (H.out.below B8.out) (by omega) HL.out T HT.out J HJ.out _ _ a0 N8 rfl rfl (by omega) (by omega)).mono ?_
    rintro e W9 ⟨A9, L9, c9, rfl, hr9, hb9⟩
    have B9 := Lib.hid (B8.out.trans (hb9.mono B8.out.size))
    have R8' := Lib.hid (R8.out.below hb9)
    have R2c := Lib.hid (R2b.out.below hb9)
    have R9 := Lib.hid hr9
    clear hr9 hb9 B8 R8 R2b
    go_wp2_with fail
    refine (Join_c (H.out.below B9.out) (by omega) HL2.out).mono ?_
    rintro e W10 ⟨g10, c10, rfl, ho10, hb10⟩
    rw [HT.out, HJ.out] at ho10
    rw [HT.out]
    have hM1 := rows_lit (w := W10) (n := 1) (RA := fun _ => some ⟨g10, 0, none⟩) (RL := fun _ => T) (RC := fun _ => c10) (R := fun _ => J) (fun r _ => own_in ho10) #[.slice (some ⟨g10, 0, none⟩) T c10] (fun r hr => by rw [show r = 0 by omega]; rfl) 25 (by unfold maxLen; omega)
    have hba := (Below.refl W10.heap.size W10).alloc (Nat.le_refl _) (.cells #[.slice (some ⟨g10, 0, none⟩) T c10] 25)
    have B10 := Lib.hid ((B9.out.trans (hb10.mono B9.out.size)).trans (hba.mono (B9.out.trans (hb10.mono B9.out.size)).size))
    have R8 := Lib.hid ((R8'.out.below hb10).below hba)
    have R2d := Lib.hid ((R2c.out.below hb10).below hba)
    have R9' := Lib.hid ((R9.out.below hb10).below hba)
    have M1 := Lib.hid hM1
    clear ho10 hb10 hM1 hba B9 R8' R2c R9
    have t1 : lenTo (fun _ => T) 1 = T := Nat.zero_add T
    have j1 : joinTo (fun _ => J) 1 = J := List.nil_append J
    have T1 := Lib.hid t1
    have J1 := Lib.hid j1
    clear t1 j1
    go_wp2_with fail
    generalize W10.alloc (.cells #[.slice (some ⟨g10, 0, none⟩) T c10] 25) = W11 at *
    generalize W10.heap.size = g11 at *
    refine (Bytes_n M1.out (by omega) (fun r _ => (show T ≤ 100000 by omega)) T T1.out J J1.out _ _ a0 m0 rfl rfl (by omega) (by omega)).mono ?_
    rintro e W12 ⟨A12, L12, c12, rfl, hr12, hb12⟩
    rw [decide_eq_false D3.out]
    rw [if_neg D3.out] at hr12
    have B12 := Lib.hid (B10.out.trans (hb12.mono B10.out.size))
    have R8' := Lib.hid (R8.out.below hb12)
    have R2e := Lib.hid (R2d.out.below hb12)
    have R9b := Lib.hid (R9'.out.below hb12)
    have M2 := Lib.hid (M1.out.below hb12)
    have R12 := Lib.hid hr12
    clear hr12 hb12 B10 R8 R2d R9' M1
    by_cases hz : N8 = 0
    · have z1 : ((N8 : Int) == 0) = true := by rw [beq_iff_eq]; omega
      clear hz
      go_wp2_with fail
      refine (SameE_c _ _ _ _ _ _ _ _ _ R12.out.row R2e.out.row rfl).mono ?_
      rintro e _ ⟨rfl, q1, rfl⟩
      have B13 := Lib.hid (below_drewN B12.out q1)
      have M3 := Lib.hid (M2.out.drewN q1)
      have H3 := Lib.hid (H.out.below B13.out)
      clear B12 M2
      generalize W12.drewN q1 = W13 at *
      go_wp2_with fail
      refine (Size_c M3.out (by omega) (fun r _ => (show T ≤ 1048576 by omega))).mono ?_
      rintro e _ ⟨rfl, rfl⟩
      rw [T1.out]
      go_wp2_with fail
      refine (Size_c H3.out (by omega) HL2.out).mono ?_
      rintro e _ ⟨rfl, rfl⟩
      rw [HT.out]
      go_wp2
      go_ret
      exact ⟨rfl, B13.out⟩
    · have z1 : ((N8 : Int) == 0) = false := by rw [beq_eq_false_iff_ne]; omega
      have hl8 : l8 ≠ [] := fun e => hz (by rw [← HN8.out, e]; rfl)
      obtain ⟨k1, k2⟩ := HCUT.out l8 HS8.out hl8
      rw [HN8.out] at k1 k2
      rw [decide_eq_true k1]
      rw [if_pos k1, k2] at R9b
      clear hz hl8 k1 k2
      go_wp2_with fail
      refine (SameE_c _ _ _ _ _ _ _ _ _ R9b.out.row R8'.out.row rfl).mono ?_
      rintro e _ ⟨rfl, q0, rfl⟩
      have B13 := Lib.hid (below_drewN B12.out q0)
      have M3 := Lib.hid (M2.out.drewN q0)
      have S1 := Lib.hid (R12.out.drewN q0)
      have S2 := Lib.hid (R2e.out.drewN q0)
      clear B12 M2 R12 R2e R9b R8'
      generalize W12.drewN q0 = W13 at *
      go_wp2_with fail
      refine (SameE_c _ _ _ _ _ _ _ _ _ S1.out.row S2.out.row rfl).mono ?_
      rintro e _ ⟨rfl, q1, rfl⟩
      have B14 := Lib.hid (below_drewN B13.out q1)
      have M4 := Lib.hid (M3.out.drewN q1)
      have H4 := Lib.hid (H.out.below B14.out)
      clear B13 M3
      generalize W13.drewN q1 = W14 at *
      go_wp2_with fail
      refine (Size_c M4.out (by omega) (fun r _ => (show T ≤ 1048576 by omega))).mono ?_
      rintro e _ ⟨rfl, rfl⟩
      rw [T1.out]
      go_wp2_with fail
      refine (Size_c H4.out (by omega) HL2.out).mono ?_
      rintro e _ ⟨rfl, rfl⟩
      rw [HT.out]
      go_wp2
      go_ret
      exact ⟨rfl, B14.out⟩
theorem walk_VolumeCuts (w : World) (A : Option Addr) (N cap : Nat) (RA : Nat → Option Addr) (RL RC : Nat → Nat) (R : Nat → List F) (h : MIn w A N cap RA RL RC R) (at_ : Int) (ha : (Lit.int .i64 at_).wf = true) (m : Int) (hm : (Lit.int .i64 m).wf = true) (n : Int) (hn : (Lit.int .i64 n).wf = true) :
    Calls Try.prog 5 #[.slice A N cap, .int .i64 at_, .int .i64 m, .int .i64 n] w fun e w' => e = .returned (.bool true) ∧ Below w.heap.size w w' := by
  by_cases hf : fewP N RL
  · have HF : Hid (decide (fewP N RL) = true) := decide_eq_true hf
    by_cases t0 : at_ < 0
    · go_enter Try.func5, Try.ntmps5
      go_wp2_with fail
      refine (alive21_c _).mono ?_
      rintro e W1 ⟨rfl, hb1⟩
      go_wp2_with (go_at_call 8; refine (few_c (h.below hb1)).mono ?_; rintro e _ ⟨rfl, rfl⟩; rw [HF.out])
      go_ret
      exact ⟨rfl, hb1⟩
    · by_cases t1 : m < 0
      · go_enter Try.func5, Try.ntmps5
        go_wp2_with fail
        refine (alive21_c _).mono ?_
        rintro e W1 ⟨rfl, hb1⟩
        go_wp2_with (go_at_call 8; refine (few_c (h.below hb1)).mono ?_; rintro e _ ⟨rfl, rfl⟩; rw [HF.out])
        go_ret
        exact ⟨rfl, hb1⟩
      · by_cases t2 : n < 0
        · go_enter Try.func5, Try.ntmps5
          go_wp2_with fail
          refine (alive21_c _).mono ?_
          rintro e W1 ⟨rfl, hb1⟩
          go_wp2_with (go_at_call 8; refine (few_c (h.below hb1)).mono ?_; rintro e _ ⟨rfl, rfl⟩; rw [HF.out])
          go_ret
          exact ⟨rfl, hb1⟩
        · by_cases t3 : 2000 < at_
          · go_enter Try.func5, Try.ntmps5
            go_wp2_with fail
            refine (alive21_c _).mono ?_
            rintro e W1 ⟨rfl, hb1⟩
            go_wp2_with (go_at_call 8; refine (few_c (h.below hb1)).mono ?_; rintro e _ ⟨rfl, rfl⟩; rw [HF.out])
            go_ret
            exact ⟨rfl, hb1⟩
          · by_cases t4 : 2000 < m
            · go_enter Try.func5, Try.ntmps5
              go_wp2_with fail
              refine (alive21_c _).mono ?_
              rintro e W1 ⟨rfl, hb1⟩
              go_wp2_with (go_at_call 8; refine (few_c (h.below hb1)).mono ?_; rintro e _ ⟨rfl, rfl⟩; rw [HF.out])
              go_ret
              exact ⟨rfl, hb1⟩
            · by_cases t5 : 2000 < n
              · go_enter Try.func5, Try.ntmps5
                go_wp2_with fail
                refine (alive21_c _).mono ?_
                rintro e W1 ⟨rfl, hb1⟩
                go_wp2_with (go_at_call 8; refine (few_c (h.below hb1)).mono ?_; rintro e _ ⟨rfl, rfl⟩; rw [HF.out])
                go_ret
                exact ⟨rfl, hb1⟩
              · exact cuts_main w A N cap RA RL RC R h hf at_ ha m hm n hn (by omega) (by omega) (by omega)
  · have HF : Hid (decide (fewP N RL) = false) := decide_eq_false hf
    go_enter Try.func5, Try.ntmps5
    go_wp2_with fail
    refine (alive21_c _).mono ?_
    rintro e W1 ⟨rfl, hb1⟩
    go_wp2_with (go_at_call 8; refine (few_c (h.below hb1)).mono ?_; rintro e _ ⟨rfl, rfl⟩; rw [HF.out])
    go_ret
    exact ⟨rfl, hb1⟩
end Go.Proofs.Ytblbedffoeomeaa
