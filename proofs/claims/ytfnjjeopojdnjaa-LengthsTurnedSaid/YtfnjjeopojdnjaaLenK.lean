/-
  WHAT IS MADE: full, least, the rarer the longer; and the error. No conditions.
-/
import Derived.Test.YtfnjjeopojdnjaaLenJ
namespace Go.Proofs.Ytfnjjeopojdnjaa
open Go.RowKit
set_option maxRecDepth 100000
set_option linter.unusedVariables false

theorem sumF_ind (f : Nat → Nat) {s n : Nat} (h : s < n) : sumF (fun v => if v = s then f v else 0) n = f s := by
  induction n with
  | zero => omega
  | succ n ih =>
    rw [sumF_succ]
    by_cases e : s = n
    · subst e
      rw [if_pos rfl, sumF_zero fun i hi => if_neg (by omega), Nat.zero_add]
    · rw [ih (by omega), if_neg (fun h => e h.symm), Nat.add_zero]
/-- sums by places are sums by symbols -/
theorem sum_places (g : Nat → Nat) (d : Nat → Nat) (n : Nat) : ∀ k, (∀ p, p < k → d p < n) → sumF (fun p => g (d p)) k = sumF (fun v => g v * cnD d v k) n := by
  intro k
  induction k with
  | zero => intro _; exact (sumF_zero fun v _ => Nat.mul_zero (g v)).symm
  | succ k ih =>
    intro h
    rw [sumF_succ, ih fun p hp => h p (by omega), ← sumF_ind g (h k (by omega)), ← sumF_add]
    refine sumF_congr fun v _ => ?_
    rw [cnD_succ, Nat.mul_add]
    congr 1
    by_cases e : v = d k
    · rw [if_pos e, if_pos e.symm, Nat.mul_one]
    · rw [if_neg e, if_neg (fun h => e h.symm), Nat.mul_zero]
theorem sum_come {fr : List Int} {n m : Nat} {d : Nat → Nat} (h : Come fr n m d) (g : Nat → Nat) : sumF (fun p => g (d p)) m = sumF (fun v => if 0 < gi fr v then g v else 0) n := by
  rw [sum_places g d n m h.sym]
  refine sumF_congr fun v hv => ?_
  rw [h.cnt v]
  by_cases e : 0 < gi fr v
  · rw [if_pos ⟨hv, e⟩, if_pos e, Nat.mul_one]
  · rw [if_neg (fun h => e h.2), if_neg e, Nat.mul_zero]
/-- each symbol that comes has a place -/
theorem Come.find {fr : List Int} {n m : Nat} {d : Nat → Nat} (h : Come fr n m d) {v : Nat} (hv : v < n) (h0 : 0 < gi fr v) : ∃ p, p < m ∧ d p = v := by
  have h1 := h.cnt v
  rw [if_pos ⟨hv, h0⟩] at h1
  obtain ⟨j, _, h2, h3⟩ := cnD_find (d := d) (v := v) (a := 0) (b := m) (by rw [h1]; show (0 : Nat) < 1; omega)
  exact ⟨j, h2, h3⟩
theorem Come.pos {fr : List Int} {n m : Nat} {d : Nat → Nat} (h : Come fr n m d) {p : Nat} (hp : p < m) : 0 < gi fr (d p) := by
  have h1 := h.cnt (d p)
  have h2 : cnD d (d p) (p + 1) ≤ cnD d (d p) m := cnD_mono d _ (by omega)
  rw [cnD_succ, if_pos rfl] at h2
  rcases Classical.em (0 < gi fr (d p)) with h3 | h3
  · exact h3
  · rw [if_neg (fun h => h3 h.2)] at h1; omega
def krF (fr : List Int) (o : Nat → Nat) (n : Nat) : Nat := sumF (fun v => if 0 < gi fr v then 2 ^ (15 - o v) else 0) n
def coF (fr : List Int) (o : Nat → Nat) (n : Nat) : Nat := sumF (fun v => (gi fr v).toNat * o v) n
/-- what is asked of lengths, by symbols -/
structure MadeX (fr : List Int) (n L m : Nat) (A : Nat → Nat) : Prop where
  pos : ∀ v, v < n → 0 < gi fr v → 1 ≤ A v
  zero : ∀ v, v < n → ¬ 0 < gi fr v → A v = 0
  most : ∀ v, A v ≤ L
  full : krF fr A n = if m = 0 then 0 else if m = 1 then 16384 else 32768
  least : ∀ o : Nat → Nat, (∀ v, v < n → 0 < gi fr v → 1 ≤ o v ∧ o v ≤ L) → krF fr o n ≤ 32768 → coF fr A n ≤ coF fr o n
  falls : ∀ i k, i < n → k < n → 0 < gi fr k → gi fr k < gi fr i → A i ≤ A k
theorem pow_up {L x : Nat} (h1 : x ≤ L) (h2 : L ≤ 15) : 2 ^ (15 - x) = 2 ^ (15 - L) * 2 ^ (L - x) := by rw [← Nat.pow_add]; congr 1; omega
theorem coF_places {fr : List Int} {n m : Nat} {d : Nat → Nat} (h : Come fr n m d) (hf : ∀ i, i < n → 0 ≤ gi fr i) (o : Nat → Nat) : coF fr o n = sumF (fun p => (wD fr d m).getD p 0 * o (d p)) m := by
  have e : sumF (fun p => (wD fr d m).getD p 0 * o (d p)) m = sumF (fun p => (gi fr (d p)).toNat * o (d p)) m := sumF_congr fun p hp => by rw [wD_at fr d hp]
  rw [e, sum_come h (fun v => (gi fr v).toNat * o v)]
  refine sumF_congr fun v hv => ?_
  split
  · rfl
  · rename_i h1
    have := hf v hv
    rw [show (gi fr v).toNat = 0 by omega, Nat.zero_mul]
theorem Made.best {fr : List Int} {n L m : Nat} {d A : Nat → Nat} (h : Made fr n L m d A) (h2 : 2 ≤ m) (hL : 1 ≤ L) : Best (wD fr d m) L (fun p => A (d p)) := by
  obtain ⟨t, rfl⟩ : ∃ t, L = t + 1 := ⟨L - 1, by omega⟩
  have hb := best_all (wD_srt h.come) (t := t) (by rw [wD_length]; exact h2) (by rw [wD_length]; exact h.many)
  have he : ∀ p, p < m → A (d p) = lenC (bestC (wD fr d m) (t + 1)) p := fun p hp => by
    rw [h.at_ p hp]
    unfold lenP
    rw [if_neg (by omega)]
  have hl := wD_length fr d m
  refine ⟨fun j hj => ?_, fun j hj => ?_, ?_, fun i j hij hj => ?_, fun o h1 h3 => ?_⟩
  · rw [he j (by omega)]; exact hb.one j hj
  · rw [he j (by omega)]; exact hb.most j hj
  · rw [← hb.full]; exact sumF_congr fun j hj => by rw [he j (by omega)]
  · rw [he i (by omega), he j (by omega)]; exact hb.falls i j hij hj
  · refine Nat.le_trans (Nat.le_of_eq (sumF_congr fun j hj => ?_)) (hb.least o h1 h3)
    rw [he j (by omega)]
theorem Made.ext {fr : List Int} {n L m : Nat} {d A : Nat → Nat} (h : Made fr n L m d A) (hL : 1 ≤ L) (hL2 : L ≤ 15) (hf : ∀ i, i < n → 0 ≤ gi fr i) : MadeX fr n L m A := by
  have hc := h.come
  have hz : ∀ v, v < n → ¬ 0 < gi fr v → A v = 0 := fun v hv h0 => h.none v fun p hp e => h0 (by rw [← e]; exact hc.pos hp)
  have hz2 : ∀ v, ¬ v < n → A v = 0 := fun v hv => h.none v fun p hp e => hv (by rw [← e]; exact hc.sym p hp)
  have hkr : ∀ o : Nat → Nat, krF fr o n = sumF (fun p => 2 ^ (15 - o (d p))) m := fun o => (sum_come hc (fun v => 2 ^ (15 - o v))).symm
  rcases (show m = 0 ∨ m = 1 ∨ 2 ≤ m by omega) with h0 | h1 | h2
  · have hno : ∀ v, v < n → ¬ 0 < gi fr v := fun v hv h3 => by obtain ⟨p, hp, _⟩ := hc.find hv h3; omega
    have hall : ∀ v, A v = 0 := fun v => by
      by_cases hv : v < n
      · exact hz v hv (hno v hv)
      · exact hz2 v hv
    refine ⟨fun v hv h3 => absurd h3 (hno v hv), hz, fun v => by rw [hall v]; omega, ?_, fun o _ _ => ?_, fun i k hi hk h3 _ => absurd h3 (hno k hk)⟩
    · rw [hkr, if_pos h0, h0]; rfl
    · unfold coF
      rw [sumF_zero fun v _ => by rw [hall v, Nat.mul_zero]]
      exact Nat.zero_le _
  · have hone : A (d 0) = 1 := by
      rw [h.at_ 0 (by omega)]
      unfold lenP
      rw [if_pos h1]
    have hat : ∀ v, v < n → 0 < gi fr v → v = d 0 := fun v hv h3 => by
      obtain ⟨p, hp, e⟩ := hc.find hv h3
      rw [← e, show p = 0 by omega]
    refine ⟨fun v hv h3 => by rw [hat v hv h3, hone]; exact Nat.le_refl _, hz, fun v => ?_, ?_, fun o h4 _ => ?_, fun i k hi hk h3 h4 => ?_⟩
    · by_cases hv : v < n
      · by_cases h3 : 0 < gi fr v
        · rw [hat v hv h3, hone]; exact hL
        · rw [hz v hv h3]; omega
      · rw [hz2 v hv]; omega
    · rw [hkr, if_neg (by omega), if_pos h1, h1]
      show 0 + 2 ^ (15 - A (d 0)) = 16384
      rw [hone]
    · rw [coF_places hc hf, coF_places hc hf, h1]
      show 0 + (wD fr d 1).getD 0 0 * A (d 0) ≤ 0 + (wD fr d 1).getD 0 0 * o (d 0)
      rw [hone, Nat.zero_add, Nat.zero_add]
      exact Nat.mul_le_mul_left _ (h4 (d 0) (hc.sym 0 (by omega)) (hc.pos (by omega))).1
    · rw [hat i hi (by omega), hat k hk h3]; exact Nat.le_refl _
  · have hb := h.best h2 hL
    have hl := wD_length fr d m
    have hmost : ∀ p, p < m → A (d p) ≤ L := fun p hp => hb.most p (by omega)
    refine ⟨fun v hv h3 => ?_, hz, fun v => ?_, ?_, fun o h4 h5 => ?_, fun i k hi hk h3 h4 => ?_⟩
    · obtain ⟨p, hp, e⟩ := hc.find hv h3
      rw [← e]; exact hb.one p (by omega)
    · by_cases hv : v < n
      · by_cases h3 : 0 < gi fr v
        · obtain ⟨p, hp, e⟩ := hc.find hv h3
          rw [← e]; exact hmost p hp
        · rw [hz v hv h3]; omega
      · rw [hz2 v hv]; omega
    · rw [hkr, if_neg (by omega), if_neg (by omega)]
      have h6 := hb.full
      rw [hl] at h6
      rw [sumF_congr fun p hp => pow_up (hmost p hp) hL2, sumF_mul, h6, ← Nat.pow_add, show 15 - L + L = 15 by omega]
    · rw [coF_places hc hf, coF_places hc hf]
      have h6 : ∀ p, p < m → o (d p) ≤ L := fun p hp => (h4 (d p) (hc.sym p hp) (hc.pos hp)).2
      have h7 := hb.least (fun p => o (d p)) (fun j hj => h6 j (by omega)) (by
        rw [hl]
        rw [hkr, sumF_congr fun p hp => pow_up (h6 p hp) hL2, sumF_mul, show (32768 : Nat) = 2 ^ (15 - L) * 2 ^ L by rw [← Nat.pow_add, show 15 - L + L = 15 by omega]] at h5
        exact Nat.le_of_mul_le_mul_left h5 (Nat.pow_pos (by decide)))
      rw [hl] at h7
      exact h7
    · obtain ⟨p, hp, e⟩ := hc.find hi (by omega)
      obtain ⟨r, hr, e2⟩ := hc.find hk h3
      have hpr : r ≤ p := by
        rcases Nat.lt_or_ge p r with h5 | h5
        · have := hc.srt p r (by omega) h5 hr
          rw [e, e2] at this
          omega
        · exact h5
      rw [← e, ← e2]
      exact hb.falls r p hpr (by omega)
set_option maxHeartbeats 4000000 in
theorem Make_no (FA : Option Addr) (n cf : Nat) (fr : List Int) (L : Int) (w : World) (hf : IRow w FA n .i64 fr) (hno : chkE fr n L ≠ 0) :
    Calls Try.prog 10 #[.slice FA n cf, .int .i64 L] w fun e w' => e = .returned (.tuple #[.slice none 0 0, .int .i64 (chkE fr n L : Nat)]) ∧ Below w.heap.size w w' := by
  have hm := hf.max'
  by_cases hL : L < 1 ∨ 15 < L
  · have he : Hid (chkE fr n L = 1) := if_pos hL
    by_cases h1 : L < 1
    · clear hL hno
      go_enter Try.func10, Try.ntmps10
      go_wp2
      go_ret2
      rw [he.out]
      exact ⟨rfl, Below.refl _ _⟩
    · have h2 : 15 < L := by omega
      clear hL hno
      go_enter Try.func10, Try.ntmps10
      go_wp2
      go_ret2
      rw [he.out]
      exact ⟨rfl, Below.refl _ _⟩
  · have h1 : ¬ L < 1 := by omega
    have h2 : ¬ 15 < L := by omega
    by_cases hn : 288 < n
    · have he : Hid (chkE fr n L = 2) := by unfold Hid chkE; rw [if_neg hL, if_pos hn]
      have hni : (288 : Int) < n := by omega
      clear hL hno
      go_enter Try.func10, Try.ntmps10
      go_wp2
      go_ret2
      rw [he.out]
      exact ⟨rfl, Below.refl _ _⟩
    · have hni : ¬ (288 : Int) < n := by omega
      have hct := Contains3_c FA n cf fr w hf
      by_cases hfb : FreqB fr n = false
      · have he : Hid (chkE fr n L = 23) := by unfold Hid chkE; rw [if_neg hL, if_neg hn, if_pos hfb]
        rw [hfb] at hct
        have HCT := Lib.hid hct
        clear hL hno hct hfb
        go_enter Try.func10, Try.ntmps10
        go_wp2_with fail
        refine HCT.out.mono ?_
        rintro e w' ⟨rfl, rfl⟩
        go_wp2
        go_ret2
        rw [he.out]
        exact ⟨rfl, Below.refl _ _⟩
      · have hft : FreqB fr n = true := by simpa using hfb
        have hmany : 2 ^ L.toNat < (comeN fr n).length := by
          unfold chkE at hno
          rw [if_neg hL, if_neg hn, if_neg hfb] at hno
          split at hno
          · assumption
          · exact absurd rfl hno
        have he : Hid (chkE fr n L = 3) := by unfold Hid chkE; rw [if_neg hL, if_neg hn, if_neg hfb, if_pos hmany]
        rw [hft] at hct
        have HCT := Lib.hid hct
        have HRF := Lib.hid (rarestFirst_c FA n cf fr w hf (by omega))
        obtain ⟨Lk, p, rfl, hp, hpi, hp9⟩ := pow_limit L (by omega)
        rw [← hp] at hmany
        have HMY := Lib.hid hmany
        clear hL hno hct hfb hft hp hmany
        go_enter Try.func10, Try.ntmps10
        go_wp2_with fail
        refine HCT.out.mono ?_
        rintro e w' ⟨rfl, rfl⟩
        go_wp2_with fail
        refine HRF.out.mono ?_
        rintro e w1 ⟨O, c, d, m, rfl, hm, hmc, hrow, hcome, hb1⟩
        have hmp : (p : Int) < (m : Int) := by have := HMY.out; omega
        have hm300 := hcome.le
        clear hm
        go_wp2
        go_ret2
        rw [he.out]
        exact ⟨rfl, hb1⟩
end Go.Proofs.Ytfnjjeopojdnjaa
