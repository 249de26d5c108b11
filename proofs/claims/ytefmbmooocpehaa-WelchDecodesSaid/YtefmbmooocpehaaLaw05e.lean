/-
  LAW 05: WelchDecodes. No conditions.
-/
import Derived.Test.YtefmbmooocpehaaLaw05d
namespace Go.Proofs.Ytefmbmooocpehaa
open Go.RowKit
set_option maxRecDepth 100000
set_option linter.unusedVariables false

/-- a row of values reads as f -/
def VRow (w : World) (A : Option Addr) (n : Nat) (f : Nat → Value) : Prop := n ≤ maxLen ∧ (0 < n → ∃ b off, A = some ⟨b, off, none⟩ ∧ b < w.heap.size ∧ ∀ i, i < n → w.cell? ⟨b, off + i, none⟩ = some (f i))
section
variable {w w' : World} {A : Option Addr} {n : Nat} {f : Nat → Value}
theorem VRow.below (h : VRow w A n f) (hb : Below w.heap.size w w') : VRow w' A n f := ⟨h.1, fun hn => by
  obtain ⟨b, off, e, hl, hc⟩ := h.2 hn
  exact ⟨b, off, e, by have := hb.size; omega, fun i hi => (hb.cell (p := ⟨b, off + i, none⟩) hl).trans (hc i hi)⟩⟩
theorem VRow.drewN (h : VRow w A n f) (q : Nat) : VRow (w.drewN q) A n f := h
theorem VRow.at_ (h : VRow w A n f) {k : Nat} (hk : k < n) : ∃ b off, A = some ⟨b, off, none⟩ ∧ b < w.heap.size ∧ w.cell? ⟨b, off + k, none⟩ = some (f k) := by
  obtain ⟨b, off, e, hl, hc⟩ := h.2 (by omega)
  exact ⟨b, off, e, hl, hc k hk⟩
theorem VRow.ofOwn {base c : Nat} {e : TypeId} {xs : List Value} (h : w.ownsRow base e 1 (.slice A n c) n xs) (hn : n ≤ maxLen) : VRow w A n (fun i => xs.getD i undef) := ⟨hn, fun h0 => by
  obtain ⟨g, cap, hv, _, hg⟩ := h.form h0
  injection hv with hv1 _ hv3
  subst hv1 hv3
  refine ⟨g, 0, rfl, hg, fun i hi => ?_⟩
  rw [Nat.zero_add]
  exact (RowV.own h).cell hi⟩
theorem pivC_at (ps : List Nat) {i : Nat} (h : i < ps.length) : (pivC ps).getD i undef = .int .i64 ((ps[i] : Nat) : Int) := by
  unfold pivC
  rw [List.getD_eq_getElem?_getD, List.getElem?_map, List.getElem?_eq_getElem h]
  rfl
end
set_option maxHeartbeats 1000000 in
theorem SameInts_c (A B : Option Addr) (n ca cb : Nat) (ps : List Nat) (w : World) (ha : VRow w A n fun i => (pivC ps).getD i undef) (hb : VRow w B n fun i => (pivC ps).getD i undef) (hl : n = ps.length) :
    Calls Try.prog 11 #[.slice A n ca, .slice B n cb] w fun e w' => e = .returned (.bool true) ∧ ∃ q, w' = w.drewN q := by
  have hm := ha.1
  unfold maxLen at hm
  have HL := Lib.hid hl
  have hnn : ((n : Int) != (n : Int)) = false := by simp
  clear hl
  go_enter Try.func11, Try.ntmps11
  go_wp2
  go_loopw [5] (fun i wr => ∃ k q : Nat, k ≤ n ∧ i = .int .i64 k ∧ Hid (wr = w.drewN q)) (fun i _ => n - (intOf i).toNat)
  case atStart => exact ⟨0, 0, by omega, rfl, rfl⟩
  case round =>
    obtain ⟨k, q, hk, rfl, hw⟩ := hrel
    by_cases hlt : k < n
    · have ha1 := ha.drewN q
      have hb1 := hb.drewN q
      rw [← hw.out] at ha1 hb1
      obtain ⟨b1, o1, rfl, _, h1⟩ := ha1.at_ hlt
      obtain ⟨b2, o2, rfl, _, h2⟩ := hb1.at_ hlt
      rw [pivC_at ps (by rw [← HL.out]; exact hlt)] at h1 h2
      generalize ps[k]'(by rw [← HL.out]; exact hlt) = p at h1 h2
      have hpp : ((p : Int) != (p : Int)) = false := by simp
      have hkn : (k : Int) < n := by omega
      go_wp2
      go_region_held3 (fun w' => w'.cell? ⟨b1, o1 + k, none⟩ = some (.int .i64 p) ∧ w'.cell? ⟨b2, o2 + k, none⟩ = some (.int .i64 p)) (go_keep) (fail)
      go_wp2
      go_roundw
      case rel => exact ⟨k + 1, q + 1, by omega, by go_num, by unfold Hid; rw [hw.out]; rfl⟩
      case measure => simp [intOf]; omega
    · have hkn : ¬ (k : Int) < n := by omega
      go_wp2
      go_ret
      exact ⟨rfl, q, hw.out⟩
theorem fit_one {len N : Nat} {l P P' : List F} {th : List Bool} (hok : DecOk len len (N : Int)) (hc : N ≤ cntT th len) (h : Fit (thX th len len) (thY l th len len) (cntT th len) N ((cntT th len - N) / 2) P) (h' : Fit (thX th len len) (thY l th len len) (cntT th len) N ((cntT th len - N) / 2) P') : P' = P := by
  have hl : (thX th len len).length = cntT th len := by rw [thX_length, fth_all th len len (Nat.le_refl _)]
  obtain ⟨-, -, -, h255⟩ := hok
  exact Fit.unique (fun i j hi hj => nodup_gt (thX_nodup th len len (by omega)) i j (by omega) (by omega)) (by omega) h' h
set_option maxHeartbeats 4000000 in
theorem decodes_arg (w : World) (A : Option Addr) (len ca : Nat) (B : Option Addr) (lb cb : Nat) (th : List Bool) (hb : BRow w B lb th) (n : Int) (hnr : -9223372036854775808 ≤ n ∧ n ≤ 9223372036854775807)
    (hg : ¬ (9 : Int) < (len : Int) ∨ ((9 : Int) < (len : Int) ∧ ¬ (len : Int) ≤ 255)) (hlb : ¬ (300 : Int) < (lb : Int)) (hla : ¬ (300 : Int) < (len : Int)) (hbad : ¬ DecOk len lb n) :
    Calls Try.prog 3 #[.slice A len ca, .slice B lb cb, .int .i64 n] w fun e w' => e = .returned (.bool true) ∧ Below w.heap.size w w' := by
  have HBAD := Lib.hid hbad
  have hm1 := fun W h => Most_c B lb cb n hnr th W h
  have hm2 := fun W h => RefMost_c B lb cb n hnr th W h
  obtain ⟨M, hM⟩ : ∃ M, M = mostI (cntT th lb) n := ⟨_, rfl⟩
  rw [← hM] at hm1 hm2
  have HM1 := Lib.hid hm1
  have HM2 := Lib.hid hm2
  have hMM : (M != M) = false := by simp
  have hlen : len ≤ 9223372036854775807 := by omega
  clear hbad hm1 hm2 hM
  rcases hg with hg | ⟨hg, hg2⟩
  all_goals
    go_enter Try.func3, Try.ntmps3
    go_wp2_with (first
      | (go_at_call 4; refine (alive05_c _).mono ?_; rintro e w1 ⟨rfl, hb1⟩; have hB1 := hb.below hb1)
      | (go_at_call 5; refine (Decode_arg A B len ca lb cb n _ HBAD.out).mono ?_; rintro e _ ⟨rfl, rfl⟩)
      | (go_at_call 6; refine (RefDecode_arg A B len ca lb cb n _ hlen HBAD.out).mono ?_; rintro e _ ⟨rfl, rfl⟩)
      | (go_at_call 7; refine (Same_c none none 0 0 0 [] [] _ (Row.nil _ none) (Row.nil _ none) rfl).mono ?_; rintro e _ ⟨rfl, q, rfl⟩)
      | (go_at_call 8; refine (HM1.out _ (by exact hB1)).mono ?_; rintro e _ ⟨rfl, rfl⟩)
      | (go_at_call 9; refine (HM2.out _ (by exact hB1)).mono ?_; rintro e _ ⟨rfl, rfl⟩)
      | (go_at_call 10; refine (Wrong_arg A B len ca lb cb n _ HBAD.out).mono ?_; rintro e _ ⟨rfl, rfl⟩))
    go_ret
    exact ⟨rfl, below_drewN hb1 q⟩
set_option maxHeartbeats 4000000 in
theorem decodes_ok (w : World) (A : Option Addr) (len ca : Nat) (l : List F) (h : Row w A len l) (B : Option Addr) (cb : Nat) (th : List Bool) (hb : BRow w B len th) (N : Nat)
    (hg : ¬ (9 : Int) < (len : Int)) (hok : DecOk len len (N : Int)) :
    Calls Try.prog 3 #[.slice A len ca, .slice B len cb, .int .i64 (N : Int)] w fun e w' => e = .returned (.bool true) ∧ Below w.heap.size w w' := by
  have HOK := Lib.hid hok
  have hN2 := hok.2.2.1
  have hm1 := fun W h => Most_c B len cb (N : Int) (by omega) th W h
  have hm2 := fun W h => RefMost_c B len cb (N : Int) (by omega) th W h
  obtain ⟨M, hM⟩ : ∃ M, M = mostI (cntT th len) (N : Int) := ⟨_, rfl⟩
  rw [← hM] at hm1 hm2
  have HM1 := Lib.hid hm1
  have HM2 := Lib.hid hm2
  have hMM : (M != M) = false := by simp
  have hla : ¬ (300 : Int) < (len : Int) := by omega
  clear hok hm1 hm2 hM hN2
  go_enter Try.func3, Try.ntmps3
  go_wp2_with (go_at_call 4; refine (alive05_c _).mono ?_; rintro e w1 ⟨rfl, hb1⟩)
  have h1 := h.below hb1
  have hB1 := hb.below hb1
  refine (Decode_c A B len ca cb N l th w1 h1 hB1 HOK.out).mono ?_
  rintro e w2 ⟨hres, hb2⟩
  have hb12 := hb1.trans (hb2.mono hb1.size)
  have h2 := h1.below hb2
  have hB2 := hB1.below hb2
  rcases hres with ⟨T, ct, P, rfl, hown, hc, hfit⟩ | ⟨rfl, hno⟩
  · have HC := Lib.hid hc
    have HF := Lib.hid hfit
    have hT2 := (own_in hown).row
    obtain ⟨kk, hkk⟩ : ∃ kk, kk = (dfF l th (vals P 0 len) len).length := ⟨_, rfl⟩
    have HK := Lib.hid hkk
    rw [← hkk]
    have hkki : ((kk : Int) != (kk : Int)) = false := by simp
    clear hkk hown hc hfit hb2 h1 hB1 hb1
    go_wp2_with fail
    refine (RefDecode_c A B len ca cb N l th w2 h2 hB2 HOK.out).mono ?_
    rintro e w3 ⟨hres, hb3⟩
    have hb13 := hb12.trans (hb3.mono hb12.size)
    have h3 := h2.below hb3
    have hB3 := hB2.below hb3
    have hT3 := hT2.below hb3
    clear hb3 hT2 h2 hB2 hb12
    rcases hres with ⟨X, cx, P', rfl, hX, hc', hfit'⟩ | ⟨rfl, hno⟩
    · obtain rfl : P' = P := fit_one HOK.out HC.out HF.out hfit'
      rw [← HK.out]
      have hX3 := hX.row
      clear hX hc' hfit'
      go_wp2_with (first
        | (go_at_call 7; refine (Same_c T X len ct cx _ _ _ hT3 hX3 rfl).mono ?_; rintro e _ ⟨rfl, q, rfl⟩)
        | (go_at_call 8; refine (HM1.out _ (by exact hB3)).mono ?_; rintro e _ ⟨rfl, rfl⟩)
        | (go_at_call 9; refine (HM2.out _ (by exact hB3)).mono ?_; rintro e _ ⟨rfl, rfl⟩))
      have h4 := h3.drewN q
      have hB4 : BRow (w3.drewN q) B len th := hB3
      have hX4 := hX3.drewN q
      have hb14 := below_drewN hb13 q
      generalize w3.drewN q = w4 at *
      refine (Wrong_c A B len ca cb N l th w4 h4 hB4 HOK.out).mono ?_
      rintro e w5 ⟨hres, hb5⟩
      have hb15 := hb14.trans (hb5.mono hb14.size)
      have h5 := h4.below hb5
      have hB5 := hB4.below hb5
      have hX5 := hX4.below hb5
      clear hb13 hT3 h3 hB3 hX3 h4 hB4 hX4 hb14
      rcases hres with ⟨D, d, cd, P'', rfl, hd, hD, _, hfit'⟩ | ⟨rfl, hno⟩
      · obtain rfl : P'' = P' := fit_one HOK.out HC.out HF.out hfit'
        have hlen : len ≤ 255 := HOK.out.2.2.2
        have hv5 := VRow.ofOwn hD (by have := dfF_le l th (vals P'' 0 len) len; rw [hd.out]; unfold maxLen; omega)
        have HW := Lib.hid (RefWrong_c A B X len ca cb cx l th (vals P'' 0 len) w5 h5 hB5 hX5 hlen)
        clear hlen hfit' hD hb5 h5 hB5 hX5
        go_wp2_with fail
        refine HW.out.mono ?_
        rintro e w6 ⟨D2, d2, cd2, rfl, hd2, hD2, hb6⟩
        have hb16 := hb15.trans (hb6.mono hb15.size)
        have hv56 := hv5.below hb6
        obtain rfl : d2 = d := by rw [hd.out, hd2.out]
        have hv6 := VRow.ofOwn hD2 (by exact hv56.1)
        clear hD2 hb6 HW hv5
        go_wp2_with fail
        refine (SameInts_c _ _ _ _ _ _ _ hv56 hv6 hd.out).mono ?_
        rintro e _ ⟨rfl, q2, rfl⟩
        go_wp2
        go_ret
        exact ⟨rfl, below_drewN hb16 q2⟩
      · exact absurd HF.out (hno HC.out _)
    · exact absurd HF.out (hno HC.out _)
  · have HNO := Lib.hid hno
    clear hno hb2 h1 hB1 hb1
    go_wp2_with fail
    refine (RefDecode_c A B len ca cb N l th w2 h2 hB2 HOK.out).mono ?_
    rintro e w3 ⟨hres, hb3⟩
    have hb13 := hb12.trans (hb3.mono hb12.size)
    have h3 := h2.below hb3
    have hB3 := hB2.below hb3
    clear hb3 h2 hB2 hb12
    rcases hres with ⟨X, cx, P', rfl, hX, hc', hfit'⟩ | ⟨rfl, hno⟩
    · exact absurd hfit' (HNO.out hc' _)
    · clear hno
      go_wp2_with (first
        | (go_at_call 7; refine (Same_c none none 0 0 0 [] [] _ (Row.nil _ none) (Row.nil _ none) rfl).mono ?_; rintro e _ ⟨rfl, q, rfl⟩)
        | (go_at_call 8; refine (HM1.out _ (by exact hB3)).mono ?_; rintro e _ ⟨rfl, rfl⟩)
        | (go_at_call 9; refine (HM2.out _ (by exact hB3)).mono ?_; rintro e _ ⟨rfl, rfl⟩))
      have h4 := h3.drewN q
      have hB4 : BRow (w3.drewN q) B len th := hB3
      have hb14 := below_drewN hb13 q
      generalize w3.drewN q = w4 at *
      refine (Wrong_c A B len ca cb N l th w4 h4 hB4 HOK.out).mono ?_
      rintro e w5 ⟨hres, hb5⟩
      have hb15 := hb14.trans (hb5.mono hb14.size)
      clear hb13 h3 hB3 h4 hB4 hb14 hb5
      rcases hres with ⟨D, d, cd, P'', rfl, hd, hD, hc', hfit'⟩ | ⟨rfl, hno⟩
      · exact absurd hfit' (HNO.out hc' _)
      · clear hno
        go_wp2
        go_ret
        exact ⟨rfl, hb15⟩
set_option maxHeartbeats 4000000 in
theorem walk_WelchDecodes (w : World) (A : Option Addr) (len ca : Nat) (l : List F) (ha : RowIn w A len ca l) (B : Option Addr) (lb cb : Nat) (th : List Bool) (hb : BRow w B lb th) (n : Int) (hn : (Lit.int .i64 n).wf = true) :
    Calls Try.prog 3 #[.slice A len ca, .slice B lb cb, .int .i64 n] w fun e w' => e = .returned (.bool true) ∧ Below w.heap.size w w' := by
  have h := ha.row
  have hnr : -9223372036854775808 ≤ n ∧ n ≤ 9223372036854775807 := by
    simp [Lit.wf, IntKind.min, IntKind.max, IntKind.bits, IntKind.signed] at hn
    omega
  clear ha hn
  by_cases g1 : (9 : Int) < (len : Int)
  · by_cases g2 : (len : Int) ≤ 255
    · clear hnr
      go_enter Try.func3, Try.ntmps3
      go_wp2_with (go_at_call 4; refine (alive05_c _).mono ?_; rintro e w1 ⟨rfl, hb1⟩)
      go_ret
      exact ⟨rfl, hb1⟩
    · by_cases g3 : (300 : Int) < (lb : Int)
      · clear hnr
        go_enter Try.func3, Try.ntmps3
        go_wp2_with (go_at_call 4; refine (alive05_c _).mono ?_; rintro e w1 ⟨rfl, hb1⟩)
        go_ret
        exact ⟨rfl, hb1⟩
      · by_cases g4 : (300 : Int) < (len : Int)
        · clear hnr
          go_enter Try.func3, Try.ntmps3
          go_wp2_with (go_at_call 4; refine (alive05_c _).mono ?_; rintro e w1 ⟨rfl, hb1⟩)
          go_ret
          exact ⟨rfl, hb1⟩
        · exact decodes_arg w A len ca B lb cb th hb n hnr (.inr ⟨g1, g2⟩) g3 g4 (fun h => by have := h.2.2.2; omega)
  · by_cases g3 : (300 : Int) < (lb : Int)
    · clear hnr
      go_enter Try.func3, Try.ntmps3
      go_wp2_with (go_at_call 4; refine (alive05_c _).mono ?_; rintro e w1 ⟨rfl, hb1⟩)
      go_ret
      exact ⟨rfl, hb1⟩
    · by_cases hok : DecOk len lb n
      · obtain rfl : len = lb := hok.1
        obtain ⟨N, rfl⟩ : ∃ N : Nat, n = N := ⟨n.toNat, by have := hok.2.1; omega⟩
        exact decodes_ok w A len ca l h B cb th hb N g1 hok
      · exact decodes_arg w A len ca B lb cb th hb n hnr (.inl g1) g3 (by omega) hok
end Go.Proofs.Ytefmbmooocpehaa
