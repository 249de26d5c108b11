/-
  LAW 05: WelchOnce. No conditions.
-/
import Derived.Test.YtgpmgekaelhelaaLaw05
namespace Go.Proofs.Ytgpmgekaelhelaa
open Go.RowKit
set_option maxRecDepth 100000
set_option linter.unusedVariables false

theorem cnt_snoc {b b' : Nat → Bool} {k : Nat} (h : ∀ i, i < k → b i = b' i) : cnt b (k + 1) = cnt b' k + (b k).toNat := by
  show cnt b k + (b k).toNat = _
  rw [cnt_congr h]
/-- as many places as differ are wrong -/
theorem df_cnt (l : List F) (th : List Bool) (P : List F) (len n k : Nat) (hk : k ≤ len) (hn : k ≤ n) : (dfF l th (vals P 0 len) k).length = cnt (wrongAt (thX th n k) (thY l th n k) P) (fth th n k).length := by
  induction k with
  | zero => rfl
  | succ k ih =>
    have ih := ih (by omega) (by omega)
    have hfl := fth_le_k th n k
    unfold dfF
    cases hg : gb th k with
    | false =>
      rw [if_neg (by simp), ih]
      unfold thX thY
      rw [fth_no (.inl hg)]
    | true =>
      have e1 := thX_yes (n := n) hg (by omega)
      have e2 := thY_yes (l := l) (n := n) hg (by omega)
      have e3 : (fth th n (k + 1)).length = (fth th n k).length + 1 := by
        rw [← thX_length, e1, List.length_append, thX_length]; rfl
      have hx : gt (thX th n k ++ [plI k]) (fth th n k).length = plI k := by rw [gt_append, if_neg (by rw [thX_length]; omega), thX_length, Nat.sub_self]; rfl
      have hy : gt (thY l th n k ++ [gt l k]) (fth th n k).length = gt l k := by rw [gt_append, if_neg (by rw [thY_length]; omega), thY_length, Nat.sub_self]; rfl
      rw [e3, e1, e2, cnt_snoc (b' := wrongAt (thX th n k) (thY l th n k) P) (fun i hi => by
        unfold wrongAt
        rw [gt_append, if_pos (by rw [thX_length]; exact hi), gt_append, if_pos (by rw [thY_length]; exact hi)]), ← ih]
      have hv : gt (vals P 0 len) k = ev P (plI k) := by rw [gt_vals, if_pos (by omega), Nat.zero_add]
      have hw : wrongAt (thX th n k ++ [plI k]) (thY l th n k ++ [gt l k]) P (fth th n k).length = decide (ev P (plI k) ≠ gt l k) := by unfold wrongAt; rw [hx, hy]
      rw [hw, hv]
      by_cases hE : gt l k = ev P (plI k)
      · have hd : decide (ev P (plI k) ≠ gt l k) = false := by simp [hE]
        rw [if_neg (fun e => e.2 hE), hd]
        rfl
      · have hd : decide (ev P (plI k) ≠ gt l k) = true := by simp [Ne.symm hE]
        rw [if_pos ⟨rfl, hE⟩, hd, List.length_append]
        rfl
theorem thY_same {l l' : List F} {th : List Bool} (n k : Nat) (h : ∀ i, gb th i = true → gt l i = gt l' i) : thY l th n k = thY l' th n k := by
  unfold thY
  exact List.map_congr_left fun i hi => h i (fth_there th n k i hi)
theorem dfF_same {l l' told : List F} {th : List Bool} (k : Nat) (h : ∀ i, gb th i = true → gt l i = gt l' i) : dfF l th told k = dfF l' th told k := by
  induction k with
  | zero => rfl
  | succ k ih =>
    unfold dfF
    rw [ih]
    cases hg : gb th k with
    | false => rw [if_neg (by simp), if_neg (by simp)]
    | true => rw [h k hg]
theorem dfF_none (l : List F) (th : List Bool) (k : Nat) : dfF l th l k = [] := by
  induction k with
  | zero => rfl
  | succ k ih => unfold dfF; rw [if_neg (fun e => e.2 rfl), ih]
theorem fit_self {l P : List F} {th : List Bool} {len t n e : Nat} (ht : t = cntT th len) (h : Fit (thX th len len) (thY l th len len) t n e P) : Fit (thX th len len) (thY (vals P 0 len) th len len) t n e P := by
  refine ⟨h.tt, h.le, ?_⟩
  have h1 := df_cnt (vals P 0 len) th P len len len (Nat.le_refl _) (Nat.le_refl _)
  rw [dfF_none, fth_all th len len (Nat.le_refl _), ← ht] at h1
  rw [← h1]
  exact Nat.zero_le _
/-- where something fits, it is told -/
theorem Decode_fit (A B : Option Addr) (len ca cb N : Nat) (l P : List F) (th : List Bool) (w : World) (h : Row w A len l) (hb : BRow w B len th) (hok : DecOk len len (N : Int)) (hc : N ≤ cntT th len)
    (hP : Fit (thX th len len) (thY l th len len) (cntT th len) N ((cntT th len - N) / 2) P) :
    Calls Try.prog 8 #[.slice A len ca, .slice B len cb, .int .i64 (N : Int)] w fun e w' => ∃ T ct, e = .returned (.tuple #[.slice T len ct, .int .i64 ((dfF l th (vals P 0 len) len).length : Nat), .int .i64 0]) ∧ w'.ownsRow w.heap.size 5 1 (.slice T len ct) len (cs (vals P 0 len)) ∧ Below w.heap.size w w' := by
  refine (Decode_c A B len ca cb N l th w h hb hok).mono ?_
  rintro e w' ⟨⟨T, ct, P', rfl, hown, _, hfit⟩ | ⟨rfl, hno⟩, hbw⟩
  · have hl : (thX th len len).length = cntT th len := by rw [thX_length, fth_all th len len (Nat.le_refl _)]
    obtain ⟨-, -, -, h255⟩ := hok
    obtain rfl : P' = P := Fit.unique (fun i j hi hj => nodup_gt (thX_nodup th len len (by omega)) i j (by omega) (by omega)) (by omega) hfit hP
    exact ⟨T, ct, rfl, hown, hbw⟩
  · exact absurd hP (hno hc P)
set_option maxHeartbeats 4000000 in
theorem walk_WelchOnce (w : World) (A : Option Addr) (len ca : Nat) (l : List F) (ha : RowIn w A len ca l) (B : Option Addr) (lb cb : Nat) (th : List Bool) (hb : BRow w B lb th) (n : Int) (_ : (Lit.int .i64 n).wf = true) (x : F) :
    Calls Try.prog 5 #[.slice A len ca, .slice B lb cb, .int .i64 n, .int .u8 x.n] w fun e w' => e = .returned (.bool true) ∧ Below w.heap.size w w' := by
  have h := ha.row
  clear ha
  by_cases h24 : 24 < len
  · have hl : (24 : Int) < (len : Int) := by omega
    clear h24
    go_enter Try.func5, Try.ntmps5
    go_wp2_with (go_at_call 7; refine (alive05_c _).mono ?_; rintro e w1 ⟨rfl, hb1⟩)
    go_ret
    exact ⟨rfl, hb1⟩
  have hl : ¬ (24 : Int) < (len : Int) := by omega
  by_cases hok : DecOk len lb n
  · obtain ⟨hlb, hN1, hN2, h255⟩ := hok
    subst hlb
    obtain ⟨N, rfl⟩ : ∃ N : Nat, n = N := ⟨n.toNat, by omega⟩
    have HOK : Hid (DecOk len len (N : Int)) := ⟨rfl, hN1, hN2, h255⟩
    have hlz : 0 < len := by omega
    clear h24 h255
    go_enter Try.func5, Try.ntmps5
    go_wp2_with (go_at_call 7; refine (alive05_c _).mono ?_; rintro e w1 ⟨rfl, hb1⟩)
    have h1 := h.below hb1
    have hb1' := hb.below hb1
    refine (Decode_c A B len ca cb N l th w1 h1 hb1' HOK.out).mono ?_
    rintro e w2 ⟨hres, hb2⟩
    have hB2 := hb1.trans (hb2.mono hb1.size)
    have h2 := h1.below hb2
    have hb2' := hb1'.below hb2
    rcases hres with ⟨T, ct, P, rfl, hown, hc, hfit⟩ | ⟨rfl, hno⟩
    · have HC := Lib.hid hc
      have HF := Lib.hid hfit
      obtain ⟨kk, hkk⟩ : ∃ kk, kk = (dfF l th (vals P 0 len) len).length := ⟨_, rfl⟩
      have hkm : kk ≤ (cntT th len - N) / 2 := by
        have h3 := df_cnt l th P len len len (Nat.le_refl _) (Nat.le_refl _)
        rw [fth_all th len len (Nat.le_refl _)] at h3
        have h4 := hfit.few
        omega
      have HKK := Lib.hid hkk
      have hT2 := (own_in hown).row
      rw [← hkk]
      clear hc hfit hkk hown h1 hb1' h hb hb1 hb2
      go_wp2_with fail
      refine (Copy_c A len ca l w2 h2 (by omega)).mono ?_
      rintro e w3 ⟨OA, oc, rfl, hO3, hb3⟩
      obtain ⟨go, rfl⟩ := own_some hO3 hlz
      have HLL := Lib.hid h2.len
      clear h2
      go_wp2
      go_loopw [46] (fun i wr => ∃ (k : Nat) (L : List F), k ≤ len ∧ i = .int .i64 k ∧ wr.ownsRow w2.heap.size 5 1 (.slice (some ⟨go, 0, none⟩) len oc) len (cs L) ∧ Hid (L.length = len ∧ ∀ i, gb th i = true → gt L i = gt l i) ∧ Below w2.heap.size w2 wr) (fun i _ => len - (intOf i).toNat)
      case atStart => exact ⟨0, l, by omega, rfl, hO3, ⟨HLL.out, fun i _ => rfl⟩, hb3⟩
      case round =>
        clear hO3 hb3
        obtain ⟨k, L, hk, rfl, hown, hL, hbel⟩ := hrel
        by_cases hlt : k < len
        · have hkn : (k : Int) < len := by omega
          obtain ⟨b2, o2, e2, l2, q2⟩ := hb2'.at_ hlt
          replace q2 := (hbel.cell (p := ⟨b2, o2 + k, none⟩) l2).trans q2
          subst e2
          cases hg : gb th k with
          | true =>
            rw [hg] at q2
            clear hg
            go_wp2
            go_roundw
            case rel => exact ⟨k + 1, L, by omega, by go_num, hown, hL, hbel⟩
            case measure => simp [intOf]; omega
          | false =>
            rw [hg] at q2
            have hl1 := hL.out.1
            have hcj := hown.cellAt k (by omega)
            rw [cs_at (by omega)] at hcj
            have hfz := hown.frozenAt k
            have hx2 := bits_xor (gt L k) x
            have hst := Lib.hid (hown.stored k (.int .u8 (gt L k + x).n)).1
            have hL2 : Hid ((L.set k (gt L k + x)).length = len ∧ ∀ i, gb th i = true → gt (L.set k (gt L k + x)) i = gt l i) := ⟨by rw [List.length_set, hl1], fun i hi => by
              rw [gt_set _ _ _ _ (by omega), if_neg (fun e => by subst e; rw [hg] at hi; cases hi)]
              exact hL.out.2 i hi⟩
            clear hg hl1
            go_wp2
            go_roundw
            case rel =>
              have h1 := hst.out
              rw [cs_set] at h1
              exact ⟨k + 1, _, by omega, by go_num, h1, hL2, hbel.setCell (hown.lt go rfl).1 _⟩
            case measure => simp [intOf]; omega
        · obtain rfl : k = len := by omega
          have hrow := (own_in hown).row
          have hbr := hb2'.below hbel
          have hTr := hT2.below hbel
          have hBr := hB2.trans (hbel.mono hB2.size)
          have HF2 : Hid (Fit (thX th k k) (thY L th k k) (cntT th k) N ((cntT th k - N) / 2) P) := by
            unfold Hid
            rw [thY_same k k hL.out.2]
            exact HF.out
          have HD2 : Hid ((dfF L th (vals P 0 k) k).length = kk) := by
            unfold Hid
            rw [dfF_same k hL.out.2, HKK.out]
          have HF3 := Lib.hid (fit_self rfl HF.out)
          have HD3 : Hid ((dfF (vals P 0 k) th (vals P 0 k) k).length = 0) := by unfold Hid; rw [dfF_none]; rfl
          clear hown hbel hT2 hb2' hB2
          go_wp2_with fail
          refine (Decode_fit (some ⟨go, 0, none⟩) B k oc cb N L P th wr hrow hbr HOK.out HC.out HF2.out).mono ?_
          rintro e w5 ⟨T5, c5, rfl, hown5, hb5⟩
          rw [HD2.out]
          have hT5 := (own_in hown5).row
          have hbr5 := hbr.below hb5
          have hTr5 := hTr.below hb5
          have hBr5 := hBr.trans (hb5.mono hBr.size)
          clear hown5 hb5 hbr hTr hBr hrow
          go_wp2_with fail
          refine (Decode_fit T B k ct cb N (vals P 0 k) P th w5 hTr5 hbr5 HOK.out HC.out HF3.out).mono ?_
          rintro e w6 ⟨T6, c6, rfl, hown6, hb6⟩
          rw [HD3.out]
          have hT6 := (own_in hown6).row
          have hT56 := hT5.below hb6
          have hbr6 := hbr5.below hb6
          have hTr6 := hTr5.below hb6
          have hBr6 := hBr5.trans (hb6.mono hBr5.size)
          have hmost := fun W h => Most_c B k cb (N : Int) (by omega) th W h
          rw [mostI_some (by omega) HC.out] at hmost
          obtain ⟨mm, hmm⟩ : ∃ mm, mm = (cntT th k - N) / 2 := ⟨_, rfl⟩
          rw [← hmm] at hmost hkm
          have hkmi : (kk : Int) ≤ (mm : Int) := by omega
          have HMO := Lib.hid hmost
          clear hown6 hb6 hT5 hbr5 hTr5 hBr5 hmm hkm hmost
          go_wp2_with (first
            | (go_at_call 10; first
               | (with_reducible refine (Same_c T5 T k c5 ct (vals P 0 k) (vals P 0 k) _ hT56 hTr6 rfl).mono ?_; rintro e _ ⟨rfl, q, rfl⟩)
               | (with_reducible refine (Same_c T6 T k c6 ct (vals P 0 k) (vals P 0 k) _ (hT6.drewN q) (hTr6.drewN q) rfl).mono ?_; rintro e _ ⟨rfl, q2, rfl⟩))
            | (go_at_call 11; refine (HMO.out _ (by exact hbr6)).mono ?_; rintro e _ ⟨rfl, rfl⟩))
          go_ret
          first
            | exact ⟨rfl, below_drewN (below_drewN hBr6 q) q2⟩
            | exact ⟨rfl, below_drewN hBr6 _⟩
    · clear hno
      go_wp2
      go_ret
      exact ⟨rfl, hB2⟩
  · go_enter Try.func5, Try.ntmps5
    have HBAD := Lib.hid hok
    clear hok
    go_wp2_with (first
      | (go_at_call 7; refine (alive05_c _).mono ?_; rintro e w1 ⟨rfl, hb1⟩)
      | (go_at_call 8; refine (Decode_arg A B len ca lb cb n _ HBAD.out).mono ?_; rintro e _ ⟨rfl, rfl⟩))
    go_ret
    exact ⟨rfl, hb1⟩
end Go.Proofs.Ytgpmgekaelhelaa
