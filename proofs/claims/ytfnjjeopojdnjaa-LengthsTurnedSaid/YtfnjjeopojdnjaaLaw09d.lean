/-
  LAW 09: LengthsEven. No conditions.
-/
import Derived.Test.YtfnjjeopojdnjaaLenN
import Derived.Test.YtfnjjeopojdnjaaLaw09c
namespace Go.Proofs.Ytfnjjeopojdnjaa
open Go.RowKit
set_option maxRecDepth 100000
set_option linter.unusedVariables false

theorem iF_set (f : Nat → Int) {n s : Nat} (x : Int) (h : s < n) : (iF f n).set s (.int .i64 x) = iF (fun v => if v = s then x else f v) n := by
  refine List.ext_getElem? fun k => ?_
  rw [List.getElem?_set]
  by_cases hk : k < n
  · have hR : (iF (fun v => if v = s then x else f v) n)[k]? = some (.int .i64 (if k = s then x else f k)) := iF_at _ hk
    rw [hR]
    by_cases e : s = k
    · subst e
      rw [if_pos rfl, if_pos (by rw [iF_length]; exact h), if_pos rfl]
    · rw [if_neg e, if_neg (fun h' : k = s => e h'.symm), iF_at f hk]
  · rw [if_neg (by omega), List.getElem?_eq_none (by rw [iF_length]; omega), List.getElem?_eq_none (by rw [iF_length]; omega)]
theorem iF_congr {f g : Nat → Int} {n : Nat} (h : ∀ v, v < n → f v = g v) : iF f n = iF g n := by
  unfold iF
  exact List.map_congr_left fun v hv => by rw [h v (List.mem_range.1 hv)]
theorem iF_zero (n : Nat) : (madeCells (Value.int IntKind.i64 0).cells (n * 1)).toList = iF (fun _ => 0) n := by
  rw [show madeCells (Value.int IntKind.i64 0).cells (n * 1) = madeCells #[.int .i64 0] n by rw [Nat.mul_one]; rfl, toList_madeCells_one]
  unfold iF
  refine List.ext_getElem? fun k => ?_
  rw [List.getElem?_replicate]
  by_cases hk : k < n
  · rw [if_pos hk]; simp [hk]
  · rw [if_neg hk]; exact (List.getElem?_eq_none (by simp; omega)).symm
theorem mod_lowI (a : Int) (p : Nat) (hp : 1 ≤ p) : ∃ r : Nat, a % (p : Int) = (r : Int) ∧ r < p := by
  have h1 := Int.emod_nonneg a (show (p : Int) ≠ 0 by omega)
  have h2 := Int.emod_lt_of_pos a (show (0 : Int) < p by omega)
  exact ⟨(a % (p : Int)).toNat, by omega, by omega⟩
set_option maxRecDepth 1000000 in
set_option maxHeartbeats 16000000 in
theorem walk_LengthsEven (w : World) (k0 : Int) (_h0 : (Lit.int .i64 k0).wf = true) (n0 : Int) (_h1 : (Lit.int .i64 n0).wf = true) (mu : Int) (_h2 : (Lit.int .i64 mu).wf = true) :
    Calls Try.prog 7 #[.int .i64 k0, .int .i64 n0, .int .i64 mu] w fun e w' => e = .returned (.bool true) ∧ Below w.heap.size w w' := by
  obtain ⟨i0, hi, hz0, hz1, hz2⟩ := info_parts info_int
  have ea : bits .and .i64 k0 7 = k0 % 8 := andLow k0 3 (by decide)
  have eb : bits .and .i64 n0 65535 = n0 % 65536 := andLow n0 16 (by decide)
  have ec : bits .and .i64 mu 255 = mu % 256 := andLow mu 8 (by decide)
  obtain ⟨k, hk, hk8⟩ := mod_lowI k0 8 (by decide)
  obtain ⟨u, hu, hu9⟩ := mod_lowI n0 65536 (by decide)
  obtain ⟨t, ht, ht9⟩ := mod_lowI mu 256 (by decide)
  rw [show ((8 : Nat) : Int) = 8 from rfl] at hk
  rw [show ((65536 : Nat) : Int) = 65536 from rfl] at hu
  rw [show ((256 : Nat) : Int) = 256 from rfl] at ht
  rw [hk] at ea
  rw [hu] at eb
  rw [ht] at ec
  obtain ⟨W, hW⟩ : ∃ W, W = 1 + u := ⟨_, rfl⟩
  have hWi : 1 + (u : Int) = (W : Int) := by omega
  obtain ⟨N, hN⟩ : ∃ N, N = 2 ^ k := ⟨_, rfl⟩
  have hNi : (2 : Int) ^ k = (N : Int) := by rw [hN]; push_cast; rfl
  have hN1 : 1 ≤ N ∧ N ≤ 128 := by
    have h1 : 0 < 2 ^ k := Nat.pow_pos (by decide)
    have h2 : (2 : Nat) ^ k ≤ 2 ^ 7 := Nat.pow_le_pow_right (by decide) (by omega)
    have h3 : (2 : Nat) ^ 7 = 128 := rfl
    omega
  have hW1 : 1 ≤ W ∧ W ≤ 65536 := by omega
  obtain ⟨s, hs, hsN⟩ := mod_lowI (t : Int) N hN1.1
  have hs2 : (t : Int).tmod (N : Int) = (s : Int) := by rw [Int.tmod_eq_emod_of_nonneg (by omega), hs]
  have hsi : (s : Int) < (N : Int) := by omega
  obtain ⟨Z, hZ⟩ : ∃ Z, Z = W * N := ⟨_, rfl⟩
  have hZi : (W : Int) * (N : Int) = (Z : Int) := by rw [hZ]; push_cast; rfl
  have hZ9 : 1 ≤ Z ∧ Z ≤ 8388608 := by
    have h1 := Nat.mul_le_mul hW1.2 hN1.2
    have h2 := Nat.mul_le_mul hW1.1 hN1.1
    have h3 : 65536 * 128 = 8388608 := by decide
    omega
  have HN := Lib.hid hN
  have HZ := Lib.hid hZ
  have hmx : max (k : Int) 1 = ((max k 1 : Nat) : Int) := by omega
  obtain ⟨M, hM⟩ : ∃ M, M = max k 1 := ⟨_, rfl⟩
  rw [← hM] at hmx
  have HM := Lib.hid hM
  clear hN hZ hM hW hk hu ht _h0 _h1 _h2
  go_enter Try.func7, Try.ntmps7
  go_wp2_with fail
  refine (alive09_c w).mono ?_
  rintro e w1 ⟨rfl, hb1⟩
  go_wp2_with (at_make; refine wpList_make_full _ rfl _ _ 22 rfl w1.heap.size 3 i0 (.int .i64 0) 1 Try.underlying22 hi hz0 hz1 _ _ _ _ N rfl rfl rfl rfl (by rw [hz2]; omega) (by unfold maxLen; omega) (Nat.le_refl _) ?_; intro w2 hown2 hgrow2)
  go_wp2
  rw [iF_zero] at hown2
  obtain ⟨q, hq⟩ : ∃ q, q = w1.heap.size := ⟨_, rfl⟩
  rw [← hq] at hown2 ⊢
  have hbq : Below q w1 w2 := by rw [hq]; exact (Below.refl _ _).grown hgrow2 (Nat.le_refl _) (fun k h => by cases h)
  have HQ : Hid (w.heap.size ≤ q) := by unfold Hid; rw [hq]; exact hb1.size
  have hBq : Below w.heap.size w w2 := hb1.trans (hbq.mono (by rw [hq]; exact hb1.size))
  clear hq hgrow2 hbq hb1
  go_loopw [27] (fun vi wr => ∃ (i : Nat), i ≤ N ∧ vi = .int .i64 i ∧ wr.ownsRow q 3 1 (.slice (some ⟨q, 0, none⟩) N N) N (iF (fun v => if v < i then (W : Int) else 0) N) ∧ Below w.heap.size w wr) (fun vi _ => N - (intOf vi).toNat)
  case atStart => exact ⟨0, by omega, rfl, by rw [iF_congr (g := fun _ => 0) (fun v _ => if_neg (Nat.not_lt_zero v))]; exact hown2, hBq⟩
  case round =>
    obtain ⟨i, hiN, rfl, hown, hbel⟩ := hrel
    by_cases hlt : i < N
    · have hii : (i : Int) < N := by omega
      have c0 := (hown.cellAt i (by omega)).trans (iF_at _ hlt)
      have f0 := hown.frozenAt i
      have S0 := (hown.stored i (.int .i64 (W : Int))).1
      rw [iF_set _ _ hlt, iF_congr (g := fun v => if v < i + 1 then (W : Int) else 0) (fun v hv => by
        by_cases e : v = i
        · subst e; rw [if_pos rfl, if_pos (by omega)]
        · rw [if_neg e]
          by_cases e2 : v < i
          · rw [if_pos e2, if_pos (by omega)]
          · rw [if_neg e2, if_neg (by omega)])] at S0
      have S1 := Lib.hid S0
      have HB := Lib.hid (show Below w.heap.size w (wr.setCell ⟨q, i, none⟩ (.int .i64 (W : Int))) from hbel.setCell HQ.out _)
      clear S0
      go_wp2
      go_roundw
      case rel => exact ⟨i + 1, by omega, by go_num, S1.out, HB.out⟩
      case measure => simp [intOf]; omega
    · obtain rfl : i = N := by omega
      have hii : ¬ (i : Int) < (i : Int) := by omega
      rw [iF_congr (g := fun _ => (W : Int)) (fun v hv => if_pos hv)] at hown
      have hr := IRow.ofF hown (fun v hv => by omega) (by omega)
      have hfr : ∀ v, v < i → gi (lsF (fun _ => (W : Int)) i) v = (W : Int) := fun v hv => lsF_at _ hv
      have hlen1 : (comeN (lsF (fun _ => (W : Int)) i) i).length = i := come_full (fun v hv => by rw [hfr v hv]; omega)
      have hno : chkE (lsF (fun _ => (W : Int)) i) i 15 = 0 := chk_of (by decide) (by omega) (fun v hv => by rw [hfr v hv]; omega) (by rw [hlen1]; show i ≤ 32768; omega)
      go_wp2_with fail
      refine (Make_x (some ⟨q, 0, none⟩) i i (lsF (fun _ => (W : Int)) i) 15 wr hr hno).mono ?_
      rintro e w3 ⟨g, rfl, A1, hr1, hx1, hb3⟩
      rw [hlen1] at hx1
      have hall : ∀ v, v < i → A1 v = M := fun v hv => by
        have hx2 : MadeX (lsF (fun _ => (W : Int)) i) i 15 i A1 := hx1
        rw [HM.out]
        have hi2 := HN.out
        subst hi2
        exact even_len (by omega) hW1.1 hfr hx2 rfl v hv
      have hown3 := own_below hown hb3
      have hB3 := hbel.trans (hb3.mono hbel.size)
      have HALL := Lib.hid hall
      clear hr hfr hlen1 hno hx1 hown hbel hb3 hall
      go_wp2
      go_loop [42] (fun vj => ∃ (j : Nat), j ≤ i ∧ vj = .int .i64 j) (fun vj => i - (intOf vj).toNat)
      case atStart => exact ⟨0, by omega, rfl⟩
      case round =>
        obtain ⟨j, hj, rfl⟩ := hrel
        by_cases hltj : j < i
        · have hjj : (j : Int) < i := by omega
          obtain ⟨b2, o2, e2, _, q2⟩ := hr1.at_ hltj
          injection e2 with e2
          injection e2 with e2 e2'
          subst e2 e2'
          rw [Nat.zero_add, arr_gi A1 hltj, HALL.out j hltj] at q2
          have hMM : ((M : Int) != (M : Int)) = false := by simp
          go_wp2
          go_round
          case rel => exact ⟨j + 1, by omega, by go_num⟩
          case measure => simp [intOf]; omega
        · obtain rfl : j = i := by omega
          have hjj : ¬ (j : Int) < (j : Int) := by omega
          have hnn : ((j : Int) != (j : Int)) = false := by simp
          have hnn2 : ((j : Int) == (j : Int)) = true := by simp
          by_cases hk0 : k = 0
          · have hki : ((k : Int) == 0) = true := by simp; omega
            go_wp2
            go_ret
            exact ⟨rfl, hB3⟩
          · have hki : ((k : Int) == 0) = false := by simp; omega
            have c0 := (hown3.cellAt s (by omega)).trans (iF_at _ hsN)
            have f0 := hown3.frozenAt s
            have S0 := (hown3.stored s (.int .i64 (Z : Int))).1
            rw [iF_set _ _ hsN] at S0
            have hr4 := IRow.ofF S0 (fun v hv => by split <;> omega) (by omega)
            have hfr : ∀ v, v < j → gi (lsF (fun v => if v = s then (Z : Int) else (W : Int)) j) v = if v = s then (Z : Int) else (W : Int) := fun v hv => lsF_at _ hv
            have hlen1 : (comeN (lsF (fun v => if v = s then (Z : Int) else (W : Int)) j) j).length = j := come_full (fun v hv => by rw [hfr v hv]; split <;> omega)
            have hno : chkE (lsF (fun v => if v = s then (Z : Int) else (W : Int)) j) j 15 = 0 := chk_of (by decide) (by omega) (fun v hv => by rw [hfr v hv]; split <;> omega) (by rw [hlen1]; show j ≤ 32768; omega)
            have HB4 := Lib.hid (show Below w.heap.size w (w3.setCell ⟨q, s, none⟩ (.int .i64 (Z : Int))) from hB3.setCell HQ.out _)
            have HR4 := Lib.hid hr4
            have HNO := Lib.hid hno
            have HL1 := Lib.hid hlen1
            have HFR := Lib.hid hfr
            clear S0 hr4 hno hlen1 hfr hr1 hB3
            go_wp2_with fail
            have hr4 := HR4.out
            have hB4 := HB4.out
            generalize w3.setCell ⟨q, s, none⟩ (.int .i64 (Z : Int)) = w4 at *
            refine (Make_x (some ⟨q, 0, none⟩) j j (lsF (fun v => if v = s then (Z : Int) else (W : Int)) j) 15 w4 hr4 HNO.out).mono ?_
            rintro e w5 ⟨g5, rfl, A5, hr5, hx5, hb5⟩
            rw [HL1.out] at hx5
            have hone : A5 s = 1 := by
              have hx6 : MadeX (lsF (fun v => if v = s then (Z : Int) else (W : Int)) j) j 15 j A5 := hx5
              have hfr := HFR.out
              have hZ2 := HZ.out
              have hi2 := HN.out
              subst hi2
              refine much_len (by omega) (by omega) hW1.1 hsN (fun v hv => ?_) hx6 rfl
              rw [hfr v hv]
              split
              · rw [hZ2]
              · rfl
            obtain ⟨b2, o2, e2, _, q2⟩ := hr5.at_ hsN
            injection e2 with e2
            injection e2 with e2 e2'
            subst e2 e2'
            rw [Nat.zero_add, arr_gi A5 hsN, hone] at q2
            have hB5 := hB4.trans (hb5.mono hB4.size)
            clear hx5 hr5 hb5 hB4 hr4 HB4 HR4
            go_wp2
            go_ret
            exact ⟨rfl, hB5⟩
end Go.Proofs.Ytfnjjeopojdnjaa
