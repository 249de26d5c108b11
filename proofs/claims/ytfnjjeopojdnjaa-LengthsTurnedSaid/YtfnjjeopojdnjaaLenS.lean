/-
  THE CONTRACTS OF slices' STABLE SORT with lengths' own comparison: what is left is sorted, and the same. No conditions. (Under way.)
-/
import Derived.Test.YtfnjjeopojdnjaaCanA
import Derived.Test.YtfnjjeopojdnjaaRowOut
import Derived.Deep.RegionWith
import Derived.Deep.QuietTactic
import Derived.BigQuiet
namespace Go.Proofs.Ytfnjjeopojdnjaa
open Go.RowKit
set_option maxRecDepth 100000
set_option linter.unusedVariables false

def cmpI (a b : Int) : Int := if a < b then -1 else if b < a then 1 else 0
theorem isNaN_c (a : Int) (w : World) : Calls Try.prog 34 #[.int .i64 a] w fun e w' => e = .returned (.bool false) ∧ w = w' := by
  have h : (a != a) = false := by simp
  go_enter Try.func34, Try.ntmps34
  go_wp2
  go_ret
  exact ⟨rfl, rfl⟩
theorem Compare_c (a b : Int) (w : World) : Calls Try.prog 30 #[.int .i64 a, .int .i64 b] w fun e w' => e = .returned (.int .i64 (cmpI a b)) ∧ w = w' := by
  have HN := Lib.hid (fun x W => isNaN_c x W)
  by_cases h1 : a < b
  · have hc : Hid (cmpI a b = -1) := if_pos h1
    go_enter Try.func30, Try.ntmps30
    go_wp2_with (go_at_call 34; refine (HN.out _ _).mono ?_; rintro e _ ⟨rfl, rfl⟩)
    go_ret
    exact ⟨ret_i64 hc.out.symm, rfl⟩
  · by_cases h2 : b < a
    · have hc : Hid (cmpI a b = 1) := by unfold Hid cmpI; rw [if_neg h1, if_pos h2]
      go_enter Try.func30, Try.ntmps30
      go_wp2_with (go_at_call 34; refine (HN.out _ _).mono ?_; rintro e _ ⟨rfl, rfl⟩)
      go_ret
      exact ⟨ret_i64 hc.out.symm, rfl⟩
    · have hc : Hid (cmpI a b = 0) := by unfold Hid cmpI; rw [if_neg h1, if_neg h2]
      go_enter Try.func30, Try.ntmps30
      go_wp2_with (go_at_call 34; refine (HN.out _ _).mono ?_; rintro e _ ⟨rfl, rfl⟩)
      go_ret
      exact ⟨ret_i64 hc.out.symm, rfl⟩
/-- the frequencies, as the comparison holds them -/
structure FreqIn (w : World) (q : Nat) (A : Option Addr) (n c : Nat) (fr : List Int) : Prop where
  box : w.cell? ⟨q, 0, none⟩ = some (.slice A n c)
  row : IRow w A n .i64 fr
  lt : q < w.heap.size
/-- a block is none of theirs -/
structure FarF (g q n : Nat) (A : Option Addr) : Prop where
  box : q ≠ g
  row : 0 < n → ∀ b o, A = some ⟨b, o, none⟩ → b ≠ g
theorem FreqIn.out {w w' : World} {g q n c : Nat} {A : Option Addr} {fr : List Int} (h : FreqIn w q A n c fr) (hf : FarF g q n A) (ho : Out g (g + 1) w w') : FreqIn w' q A n c fr := by
  have hs := ho.size
  refine ⟨?_, ⟨h.row.len, h.row.max, fun hn => ?_, h.row.wf⟩, by have := h.lt; omega⟩
  · rw [World.cell?_of_block (a := ⟨q, 0, none⟩) (ho.block q h.lt (by have := hf.box; omega))]
    exact h.box
  · obtain ⟨b, off, e, hl, hc⟩ := h.row.cells hn
    refine ⟨b, off, e, by omega, fun i hi => ?_⟩
    rw [World.cell?_of_block (a := ⟨b, off + i, none⟩) (ho.block b hl (by have := hf.row hn b off e; omega))]
    exact hc i hi
theorem FreqIn.drewN {w : World} {q n c : Nat} {A : Option Addr} {fr : List Int} (h : FreqIn w q A n c fr) (k : Nat) : FreqIn (w.drewN k) q A n c fr := ⟨h.box, h.row.drewN k, h.lt⟩
set_option maxHeartbeats 1000000 in
theorem rarest_c {w : World} {q n c : Nat} {A : Option Addr} {fr : List Int} (h : FreqIn w q A n c fr) (x y : Nat) (hx : x < n) (hy : y < n) :
    Calls Try.prog 29 #[.int .i64 x, .int .i64 y, .pointer (some ⟨q, 0, none⟩)] w fun e w' => e = .returned (.int .i64 (cmpI (gi fr x) (gi fr y))) ∧ ∃ k, w' = w.drewN k := by
  have hb := h.box
  obtain ⟨b, o, rfl, hl, q1⟩ := h.row.at_ hx
  have q2 : w.cell? ⟨b, o + y, none⟩ = some (.int .i64 (gi fr y)) := by
    obtain ⟨b', o', e, _, hc⟩ := h.row.cells (by omega)
    injection e with e
    injection e with e1 e2
    subst e1 e2
    exact hc y hy
  have hxi : (x : Int) < (n : Int) := by omega
  have hyi : (y : Int) < (n : Int) := by omega
  have HC := Lib.hid (fun a b W => Compare_c a b W)
  generalize gi fr x = a at *
  generalize gi fr y = d at *
  go_enter Try.func29, Try.ntmps29
  go_wp2
  go_region_held3 (fun w' => w'.cell? ⟨q, 0, none⟩ = some (.slice (some ⟨b, o, none⟩) n c) ∧ w'.cell? ⟨b, o + x, none⟩ = some (.int .i64 a) ∧ w'.cell? ⟨b, o + y, none⟩ = some (.int .i64 d)) (go_keep)
    ((go_at_call 30; refine (HC.out a d _).mono ?_; rintro e _ ⟨rfl, rfl⟩))
  go_wp2
  go_ret
  exact ⟨rfl, 1, rfl⟩
/-! ### Rows of symbols -/
def DRow (w : World) (g m : Nat) (d : Nat → Nat) : Prop := RowV w g m (fun i => .int .i64 ((d i : Nat) : Int))
/-- two stretches, exchanged -/
def swapR (d : Nat → Nat) (a b n : Nat) : Nat → Nat := fun x => if a ≤ x ∧ x < a + n then d (x - a + b) else if b ≤ x ∧ x < b + n then d (x - b + a) else d x
theorem swapR_zero (d : Nat → Nat) (a b : Nat) : swapR d a b 0 = d := by
  funext x
  unfold swapR
  rw [if_neg (by omega), if_neg (by omega)]
theorem swapR_succ (d : Nat → Nat) (a b i : Nat) (h : a + i < b) (x : Nat) : swapR d a b (i + 1) x = if x = a + i then swapR d a b i (b + i) else if x = b + i then swapR d a b i (a + i) else swapR d a b i x := by
  unfold swapR
  repeat' split
  all_goals first
    | omega
    | (congr 1; omega)
set_option maxHeartbeats 2000000 in
theorem swapRange_c {w : World} {g m cg : Nat} {d : Nat → Nat} (F : Value) (a b n : Nat) (h : DRow w g m d) (hm : m ≤ 1000) (hab : a + n ≤ b) (hb : b + n ≤ m) :
    Calls Try.prog 42 #[.slice (some ⟨g, 0, none⟩) m cg, .int .i64 a, .int .i64 b, .int .i64 n, F] w fun e w' => e = .returned (.tuple #[]) ∧ DRow w' g m (swapR d a b n) ∧ Out g (g + 1) w w' := by
  go_enter Try.func42, Try.ntmps42
  go_wp2
  go_loopw [10] (fun i wr => ∃ k : Nat, k ≤ n ∧ i = .int .i64 k ∧ DRow wr g m (swapR d a b k) ∧ Out g (g + 1) w wr) (fun i _ => n - (intOf i).toNat)
  case atStart => exact ⟨0, by omega, rfl, by rw [swapR_zero]; exact h, Out.refl _ _ _⟩
  case round =>
    obtain ⟨k, hk, rfl, hd, hout⟩ := hrel
    by_cases hlt : k < n
    · have hkn : (k : Int) < (n : Int) := by omega
      have hc1 := hd.cell (i := a + k) (by omega)
      have hc2 := hd.cell (i := b + k) (by omega)
      have hf1 := hd.frozen (a + k)
      have hf2 := hd.frozen (b + k)
      obtain ⟨u, hu⟩ : ∃ u, u = a + k := ⟨_, rfl⟩
      obtain ⟨v, hv⟩ : ∃ v, v = b + k := ⟨_, rfl⟩
      have hui : (a : Int) + (k : Int) = (u : Int) := by omega
      have hvi : (b : Int) + (k : Int) = (v : Int) := by omega
      have hum : (u : Int) < (m : Int) := by omega
      have hvm : (v : Int) < (m : Int) := by omega
      rw [← hu] at hc1 hf1
      rw [← hv] at hc2 hf2
      have huv : u ≠ v := by omega
      have huv1 : (u == v) = false := by rw [beq_eq_false_iff_ne]; exact huv
      have huv2 : (v == u) = false := by rw [beq_eq_false_iff_ne]; exact Ne.symm huv
      have HS := Lib.hid (fun x => swapR_succ d a b k (by omega) x)
      rw [← hu, ← hv] at HS
      have hd2 : DRow ((wr.setCell ⟨g, u, none⟩ (.int .i64 ((swapR d a b k v : Nat) : Int))).setCell ⟨g, v, none⟩ (.int .i64 ((swapR d a b k u : Nat) : Int))) g m (swapR d a b (k + 1)) := by
        refine ((hd.set u _).set v _).congr fun i hi => ?_
        rw [HS.out i]
        by_cases e1 : i = u
        · subst e1
          rw [if_neg huv, if_pos rfl, if_pos rfl]
        · by_cases e2 : i = v
          · subst e2
            rw [if_pos rfl, if_neg e1, if_pos rfl]
          · rw [if_neg e2, if_neg e1, if_neg e1, if_neg e2]
      have HD := Lib.hid hd2
      clear hd2 hd
      generalize swapR d a b k u = x at *
      generalize swapR d a b k v = y at *
      clear hu hv
      go_wp2
      go_region
      go_wp2
      go_roundw
      case rel => exact ⟨k + 1, by omega, by go_num, HD.out, ((hout.setCell u _).setCell v _).trans (Out.drewN _ _ _ 1)⟩
      case measure => simp [intOf]; omega
    · obtain rfl : k = n := by omega
      go_wp2
      go_end0
      exact ⟨rfl, hd, hout⟩
/-- two stretches beside each other, in the other order -/
def rotR (d : Nat → Nat) (a m b : Nat) : Nat → Nat := fun x => if a ≤ x ∧ x < a + (b - m) then d (x - a + m) else if a + (b - m) ≤ x ∧ x < b then d (x - (b - m)) else d x
theorem rot_more (d : Nat → Nat) (m i j : Nat) (hi : i ≤ m) (hj : j < i) (h0 : 0 < j) : rotR (swapR d (m - i) m j) (m - (i - j)) m (m + j) = rotR d (m - i) m (m + j) := by
  funext x
  unfold rotR swapR
  repeat' split
  all_goals first
    | omega
    | (congr 1; omega)
theorem rot_less (d : Nat → Nat) (m i j : Nat) (hi : i ≤ m) (hj : i < j) (h0 : 0 < i) : rotR (swapR d (m - i) (m + j - i) i) (m - i) m (m + (j - i)) = rotR d (m - i) m (m + j) := by
  funext x
  unfold rotR swapR
  repeat' split
  all_goals first
    | omega
    | (congr 1; omega)
theorem rot_same (d : Nat → Nat) (m i : Nat) (hi : i ≤ m) (h0 : 0 < i) : swapR d (m - i) m i = rotR d (m - i) m (m + i) := by
  funext x
  unfold rotR swapR
  repeat' split
  all_goals first
    | omega
    | (congr 1; omega)
set_option maxHeartbeats 2000000 in
theorem rotate_c {w : World} {g n cg : Nat} {d : Nat → Nat} (F : Value) (a m b : Nat) (h : DRow w g n d) (hn : n ≤ 1000) (ham : a < m) (hmb : m < b) (hb : b ≤ n) :
    Calls Try.prog 40 #[.slice (some ⟨g, 0, none⟩) n cg, .int .i64 a, .int .i64 m, .int .i64 b, F] w fun e w' => e = .returned (.tuple #[]) ∧ DRow w' g n (rotR d a m b) ∧ Out g (g + 1) w w' := by
  obtain ⟨i0, hi0⟩ : ∃ i0, i0 = m - a := ⟨_, rfl⟩
  obtain ⟨j0, hj0⟩ : ∃ j0, j0 = b - m := ⟨_, rfl⟩
  have h1 : (m : Int) - (a : Int) = (i0 : Int) := by omega
  have h2 : (b : Int) - (m : Int) = (j0 : Int) := by omega
  have hI := Lib.hid hi0
  have hJ := Lib.hid hj0
  clear hi0 hj0
  go_enter Try.func40, Try.ntmps40
  go_wp2
  go_loopw [10, 11] (fun vi vj wr => ∃ (i j : Nat) (d2 : Nat → Nat), 0 < i ∧ 0 < j ∧ i ≤ m ∧ m + j ≤ n ∧ vi = .int .i64 i ∧ vj = .int .i64 j ∧ DRow wr g n d2 ∧ Out g (g + 1) w wr ∧ Hid (rotR d2 (m - i) m (m + j) = rotR d a m b)) (fun vi vj _ => (intOf vi).toNat + (intOf vj).toNat)
  case atStart =>
    have := hI.out
    have := hJ.out
    exact ⟨i0, j0, d, by omega, by omega, by omega, by omega, rfl, rfl, h, Out.refl _ _ _, by unfold Hid; rw [show m - i0 = a by omega, show m + j0 = b by omega]⟩
  case round =>
    obtain ⟨i, j, d2, hi, hj, him, hjn, rfl, rfl, hd, hout, hrot⟩ := hrel
    obtain ⟨p, hp⟩ : ∃ p, p = m - i := ⟨_, rfl⟩
    have hpi : (m : Int) - (i : Int) = (p : Int) := by omega
    have HP := Lib.hid hp
    rcases Nat.lt_trichotomy i j with hlt | rfl | hlt
    · have hne : ((i : Int) != (j : Int)) = true := by rw [bne_iff_ne]; omega
      have hgt : ¬ (j : Int) < (i : Int) := by omega
      obtain ⟨r, hr⟩ : ∃ r, r = m + j - i := ⟨_, rfl⟩
      have hri : (m : Int) + (j : Int) - (i : Int) = (r : Int) := by omega
      obtain ⟨s, hs⟩ : ∃ s, s = j - i := ⟨_, rfl⟩
      have hsi : (j : Int) - (i : Int) = (s : Int) := by omega
      have HSW := Lib.hid (swapRange_c (cg := cg) F p r i hd hn (by omega) (by omega))
      have hrl := rot_less d2 m i j him hlt hi
      rw [← hp, ← hr, ← hs] at hrl
      have HRL := Lib.hid hrl
      have HS : Hid (0 < s ∧ m + s ≤ n ∧ s < j) := by unfold Hid; omega
      clear hrl hp hr hs hlt hd
      go_wp2_with (go_at_call 42; refine HSW.out.mono ?_; rintro e w2 ⟨rfl, hd2, hout2⟩)
      go_roundw
      case rel => exact ⟨i, s, _, hi, HS.out.1, him, HS.out.2.1, rfl, rfl, hd2, hout.trans hout2, by unfold Hid; rw [← HP.out, HRL.out, HP.out]; exact hrot.out⟩
      case measure => have := HS.out.2.2; simp [intOf]; omega
    · have hne : ((i : Int) != (i : Int)) = false := by simp
      have HSW := Lib.hid (swapRange_c (cg := cg) F p m i hd hn (by omega) (by omega))
      have hrl := rot_same d2 m i him hi
      rw [hrot.out, ← hp] at hrl
      have HRL := Lib.hid hrl
      clear hrl hp hd
      go_wp2_with (go_at_call 42; refine HSW.out.mono ?_; rintro e w2 ⟨rfl, hd2, hout2⟩)
      go_end0
      rw [HRL.out] at hd2
      exact ⟨rfl, hd2, hout.trans hout2⟩
    · have hne : ((i : Int) != (j : Int)) = true := by rw [bne_iff_ne]; omega
      have hgt : (j : Int) < (i : Int) := by omega
      obtain ⟨s, hs⟩ : ∃ s, s = i - j := ⟨_, rfl⟩
      have hsi : (i : Int) - (j : Int) = (s : Int) := by omega
      have HSW := Lib.hid (swapRange_c (cg := cg) F p m j hd hn (by omega) (by omega))
      have hrl := rot_more d2 m i j him hlt hj
      rw [← hp, ← hs] at hrl
      have HRL := Lib.hid hrl
      have HS : Hid (0 < s ∧ s ≤ m ∧ s < i) := by unfold Hid; omega
      clear hrl hp hs hlt hd
      go_wp2_with (go_at_call 42; refine HSW.out.mono ?_; rintro e w2 ⟨rfl, hd2, hout2⟩)
      go_roundw
      case rel => exact ⟨s, j, _, HS.out.1, hj, HS.out.2.1, hjn, rfl, rfl, hd2, hout.trans hout2, by unfold Hid; rw [HRL.out, HP.out]; exact hrot.out⟩
      case measure => have := HS.out.2.2; simp [intOf]; omega
/-! ### Sorted, and the same -/
theorem cmpI_neg (a b : Int) : cmpI a b < 0 ↔ a < b := by
  unfold cmpI
  split
  · omega
  · split <;> omega
def SrtI (K : Nat → Int) (d : Nat → Nat) (a b : Nat) : Prop := ∀ i j, a ≤ i → i < j → j < b → K (d i) ≤ K (d j)
def cnD (d : Nat → Nat) (v : Nat) : Nat → Nat
  | 0 => 0
  | k + 1 => cnD d v k + if d k = v then 1 else 0
theorem cnD_succ (d : Nat → Nat) (v k : Nat) : cnD d v (k + 1) = cnD d v k + if d k = v then 1 else 0 := rfl
theorem cnD_congr {d d' : Nat → Nat} {v k : Nat} (h : ∀ i, i < k → d' i = d i) : cnD d' v k = cnD d v k := by
  induction k with
  | zero => rfl
  | succ k ih => rw [cnD_succ, cnD_succ, ih fun i hi => h i (by omega), h k (by omega)]
/-- a stretch has the same in it, all else is as it was -/
def SameI (d d' : Nat → Nat) (a b : Nat) : Prop := (∀ i, i < a ∨ b ≤ i → d' i = d i) ∧ ∀ v, cnD d' v b = cnD d v b
theorem SameI.refl (d : Nat → Nat) (a b : Nat) : SameI d d a b := ⟨fun _ _ => rfl, fun _ => rfl⟩
theorem SameI.trans {d e f : Nat → Nat} {a b : Nat} (h : SameI d e a b) (k : SameI e f a b) : SameI d f a b := ⟨fun i hi => (k.1 i hi).trans (h.1 i hi), fun v => (k.2 v).trans (h.2 v)⟩
theorem cnD_ge {d d' : Nat → Nat} {v b : Nat} (h : ∀ i, b ≤ i → d' i = d i) (h2 : cnD d' v b = cnD d v b) : ∀ c, b ≤ c → cnD d' v c = cnD d v c := by
  intro c
  induction c with
  | zero => intro hc; obtain rfl : b = 0 := by omega
            rfl
  | succ c ih =>
    intro hc
    by_cases e : b = c + 1
    · subst e; exact h2
    · rw [cnD_succ, cnD_succ, ih (by omega), h c (by omega)]
theorem SameI.wide {d d' : Nat → Nat} {a b a' b' : Nat} (h : SameI d d' a b) (ha : a' ≤ a) (hb : b ≤ b') : SameI d d' a' b' :=
  ⟨fun i hi => h.1 i (by omega), fun v => cnD_ge (fun i hi => h.1 i (.inr hi)) (h.2 v) b' hb⟩
theorem cnD_mono (d : Nat → Nat) (v : Nat) {a b : Nat} (h : a ≤ b) : cnD d v a ≤ cnD d v b := by
  induction b with
  | zero => obtain rfl : a = 0 := by omega
            exact Nat.le_refl _
  | succ b ih =>
    by_cases e : a = b + 1
    · subst e; exact Nat.le_refl _
    · have := ih (by omega)
      rw [cnD_succ]
      omega
theorem cnD_find {d : Nat → Nat} {v a b : Nat} (h : cnD d v a < cnD d v b) : ∃ j, a ≤ j ∧ j < b ∧ d j = v := by
  induction b with
  | zero => simp [cnD] at h
  | succ b ih =>
    by_cases h1 : cnD d v a < cnD d v b
    · obtain ⟨j, h2, h3, h4⟩ := ih h1
      exact ⟨j, h2, by omega, h4⟩
    · rw [cnD_succ] at h
      by_cases h2 : d b = v
      · refine ⟨b, ?_, by omega, h2⟩
        by_cases h3 : a ≤ b
        · exact h3
        · have := cnD_mono d v (show b + 1 ≤ a by omega)
          rw [cnD_succ, if_pos h2] at this
          rw [if_pos h2] at h
          omega
      · rw [if_neg h2] at h
        omega
theorem SameI.mem {d d' : Nat → Nat} {a b i : Nat} (h : SameI d d' a b) (h1 : a ≤ i) (h2 : i < b) : ∃ j, a ≤ j ∧ j < b ∧ d' i = d j := by
  have h3 : cnD d' (d' i) i < cnD d' (d' i) b := by
    have := cnD_mono d' (d' i) (show i + 1 ≤ b by omega)
    rw [cnD_succ, if_pos rfl] at this
    omega
  have h4 := cnD_mono d' (d' i) h1
  have h5 : cnD d' (d' i) a = cnD d (d' i) a := cnD_congr fun x hx => h.1 x (.inl hx)
  have h6 := h.2 (d' i)
  obtain ⟨j, h7, h8, h9⟩ := cnD_find (d := d) (v := d' i) (a := a) (b := b) (by omega)
  exact ⟨j, h7, h8, h9.symm⟩
/-- what two places have, exchanged -/
def swD (d : Nat → Nat) (u v : Nat) : Nat → Nat := fun x => if x = u then d v else if x = v then d u else d x
theorem swD_cn (d : Nat → Nat) (u x : Nat) : ∀ k, u + 1 < k → cnD (swD d u (u + 1)) x k = cnD d x k := by
  have hlo : ∀ k, k ≤ u → cnD (swD d u (u + 1)) x k = cnD d x k := fun k hk => cnD_congr fun i hi => by
    unfold swD
    rw [if_neg (by omega), if_neg (by omega)]
  intro k
  induction k with
  | zero => intro h; omega
  | succ k ih =>
    intro h
    by_cases e : k = u + 1
    · subst e
      rw [cnD_succ, cnD_succ, cnD_succ, cnD_succ, hlo u (Nat.le_refl _)]
      have e1 : swD d u (u + 1) u = d (u + 1) := if_pos rfl
      have e2 : swD d u (u + 1) (u + 1) = d u := by unfold swD; rw [if_neg (by omega), if_pos rfl]
      rw [e1, e2]
      omega
    · have e3 : swD d u (u + 1) k = d k := by unfold swD; rw [if_neg (by omega), if_neg (by omega)]
      rw [cnD_succ, cnD_succ, ih (by omega), e3]
theorem swD_same (d : Nat → Nat) {a b u : Nat} (ha : a ≤ u) (hb : u + 1 < b) : SameI d (swD d u (u + 1)) a b := by
  refine ⟨fun i hi => ?_, fun v => swD_cn d u v b hb⟩
  unfold swD
  rw [if_neg (by omega), if_neg (by omega)]
/-- sorted but for what comes to stand at j -/
def SrtBut (K : Nat → Int) (d : Nat → Nat) (a e j : Nat) : Prop := ∀ x y, a ≤ x → x < y → y ≤ e → y ≠ j → K (d x) ≤ K (d y)
theorem SrtBut.swap {K : Nat → Int} {d : Nat → Nat} {a e j : Nat} (h : SrtBut K d a e (j + 1)) (haj : a ≤ j) (hje : j + 1 ≤ e) (hlt : K (d (j + 1)) < K (d j)) : SrtBut K (swD d j (j + 1)) a e j := by
  intro x y hx hxy hy hne
  unfold swD
  by_cases e1 : y = j + 1
  · subst e1
    rw [if_neg (c := j + 1 = j) (by omega), if_pos rfl]
    by_cases e2 : x = j
    · subst e2
      rw [if_pos rfl]
      omega
    · rw [if_neg e2, if_neg (by omega)]
      exact h x j hx (by omega) (by omega) (by omega)
  · rw [if_neg hne, if_neg e1]
    by_cases e2 : x = j
    · subst e2
      rw [if_pos rfl]
      exact h (x + 1) y (by omega) (by omega) hy e1
    · rw [if_neg e2]
      by_cases e3 : x = j + 1
      · subst e3
        rw [if_pos rfl]
        exact h j y haj (by omega) hy e1
      · rw [if_neg e3]
        exact h x y hx hxy hy e1
theorem SrtBut.done {K : Nat → Int} {d : Nat → Nat} {a e j : Nat} (h : SrtBut K d a e j) (hj : j = a ∨ (a < j ∧ K (d (j - 1)) ≤ K (d j))) (haj : a ≤ j) : SrtI K d a (e + 1) := by
  intro x y hx hxy hy
  by_cases e1 : y = j
  · subst e1
    rcases hj with h1 | ⟨h1, h2⟩
    · omega
    · by_cases e2 : x = y - 1
      · subst e2; exact h2
      · exact Int.le_trans (h x (y - 1) hx (by omega) (by omega) (by omega)) h2
  · exact h x y hx hxy (by omega) e1
/-- the comparison, told of symbols -/
structure CtxS (w : World) (g m q : Nat) (A : Option Addr) (n c : Nat) (fr : List Int) (d : Nat → Nat) : Prop where
  row : DRow w g m d
  fq : FreqIn w q A n c fr
  far : FarF g q n A
  sym : ∀ i, i < m → d i < n
theorem CtxS.step {w w' : World} {g m q n c : Nat} {A : Option Addr} {fr : List Int} {d d' : Nat → Nat} (h : CtxS w g m q A n c fr d) (hr : DRow w' g m d') (ho : Out g (g + 1) w w') (hs : ∀ i, i < m → d' i < n) : CtxS w' g m q A n c fr d' := ⟨hr, h.fq.out h.far ho, h.far, hs⟩
theorem SameI.sym {d d' : Nat → Nat} {a b m n : Nat} (h : SameI d d' a b) (hb : b ≤ m) (hs : ∀ i, i < m → d i < n) : ∀ i, i < m → d' i < n := fun i hi => by
  by_cases h1 : i < a ∨ b ≤ i
  · rw [h.1 i h1]; exact hs i hi
  · obtain ⟨j, h2, h3, h4⟩ := h.mem (i := i) (by omega) (by omega)
    rw [h4]
    exact hs j (by omega)
theorem CtxS.drewN {w : World} {g m q n c : Nat} {A : Option Addr} {fr : List Int} {d : Nat → Nat} (h : CtxS w g m q A n c fr d) (k : Nat) : CtxS (w.drewN k) g m q A n c fr d := ⟨h.row, h.fq.drewN k, h.far, h.sym⟩
set_option maxHeartbeats 4000000 in
theorem insertion_c {w : World} {g m cg q n c : Nat} {A : Option Addr} {fr : List Int} {d : Nat → Nat} (h : CtxS w g m q A n c fr d) (hm : m ≤ 1000) (a b : Nat) (hab : a ≤ b) (hbm : b ≤ m) :
    Calls Try.prog 37 #[.slice (some ⟨g, 0, none⟩) m cg, .int .i64 a, .int .i64 b, .func (.func 29) #[] #[.pointer (some ⟨q, 0, none⟩)]] w fun e w' => ∃ d', e = .returned (.tuple #[]) ∧ CtxS w' g m q A n c fr d' ∧ SameI d d' a b ∧ SrtI (gi fr) d' a b ∧ Out g (g + 1) w w' := by
  go_enter Try.func37, Try.ntmps37
  go_wp2
  go_loopw [8] (fun vi wr => ∃ (i : Nat) (d1 : Nat → Nat), a + 1 ≤ i ∧ i ≤ max b (a + 1) ∧ vi = .int .i64 i ∧ CtxS wr g m q A n c fr d1 ∧ Out g (g + 1) w wr ∧ Hid (SameI d d1 a b ∧ SrtI (gi fr) d1 a i)) (fun vi _ => b - (intOf vi).toNat)
  case atStart => exact ⟨a + 1, d, Nat.le_refl _, by omega, by go_num, h, Out.refl _ _ _, ⟨SameI.refl _ _ _, fun x y h1 h2 h3 => by omega⟩⟩
  case round =>
    obtain ⟨i, d1, hai, hib, rfl, hctx, hout, hinv⟩ := hrel
    by_cases hlt : i < b
    · have hilt : (i : Int) < (b : Int) := by omega
      go_wp2
      go_loopw [9] (fun vj wr => ∃ (j : Nat) (d2 : Nat → Nat), a ≤ j ∧ j ≤ i ∧ vj = .int .i64 j ∧ CtxS wr g m q A n c fr d2 ∧ Out g (g + 1) w wr ∧ Hid (SameI d d2 a b ∧ SrtBut (gi fr) d2 a i j)) (fun vj _ => (intOf vj).toNat)
      case atStart => exact ⟨i, d1, by omega, Nat.le_refl _, rfl, hctx, hout, ⟨hinv.out.1, fun x y h1 h2 h3 h4 => hinv.out.2 x y h1 h2 (by omega)⟩⟩
      case round =>
        clear hctx hout hinv
        obtain ⟨j, d2, haj, hji, rfl, hctx, hout, hinv⟩ := hrel
        by_cases hja : a < j
        · have hjd : decide (a < j) = true := decide_eq_true hja
          have hjd2 : decide ((a : Int) < (j : Int)) = true := decide_eq_true (by omega)
          obtain ⟨p, hp⟩ : ∃ p, p = j - 1 := ⟨_, rfl⟩
          have hpi : IntKind.i64.wrap ((j : Int) - 1) = (p : Int) := (IntWalk.i64_in _ (by omega)).trans (by omega)
          have hjm : (j : Int) < (m : Int) := by omega
          have hpm : (p : Int) < (m : Int) := by omega
          have hc1 := hctx.row.cell (i := j) (by omega)
          have hc2 := hctx.row.cell (i := p) (by omega)
          have hcmp := fun k => rarest_c (hctx.fq.drewN k) (d2 j) (d2 p) (hctx.sym j (by omega)) (hctx.sym p (by omega))
          obtain ⟨z, hz⟩ : ∃ z, z = cmpI (gi fr (d2 j)) (gi fr (d2 p)) := ⟨_, rfl⟩
          have hzn := cmpI_neg (gi fr (d2 j)) (gi fr (d2 p))
          rw [← hz] at hzn
          simp only [← hz] at hcmp
          have HC := Lib.hid hcmp
          have HP := Lib.hid hp
          by_cases hless : gi fr (d2 j) < gi fr (d2 p)
          · have hz0 := hzn.2 hless
            have hinv2 : Hid (SameI d (swD d2 p j) a b ∧ SrtBut (gi fr) (swD d2 p j) a i p) := by
              have e : j = p + 1 := by omega
              rw [e] at hless hinv ⊢
              exact ⟨hinv.out.1.trans (swD_same d2 (by omega) (by omega)), SrtBut.swap hinv.out.2 (by omega) (by omega) hless⟩
            have hsym : ∀ i, i < m → swD d2 p j i < n := fun x hx => by
              unfold swD
              split
              · exact hctx.sym j (by omega)
              · split
                · exact hctx.sym p (by omega)
                · exact hctx.sym x hx
            have HSYM := Lib.hid hsym
            have hf1 := hctx.row.frozen j
            have hf2 := hctx.row.frozen p
            have hpj : p ≠ j := by omega
            have HD : Hid (DRow ((wr.setCell ⟨g, j, none⟩ (.int .i64 ((d2 p : Nat) : Int))).setCell ⟨g, p, none⟩ (.int .i64 ((d2 j : Nat) : Int))) g m (swD d2 p j)) := by
              refine ((hctx.row.set j _).set p _).congr fun x hx => ?_
              unfold swD
              by_cases e1 : x = p
              · rw [if_pos e1, if_pos e1]
              · rw [if_neg e1, if_neg e1]
                by_cases e2 : x = j
                · rw [if_pos e2, if_pos e2]
                · rw [if_neg e2, if_neg e2]
            have HCTX := Lib.hid hctx
            have hpj1 : (p == j) = false := by rw [beq_eq_false_iff_ne]; exact hpj
            have hpj2 : (j == p) = false := by rw [beq_eq_false_iff_ne]; exact Ne.symm hpj
            have HB : Hid (a ≤ p ∧ p ≤ i ∧ p < j) := by unfold Hid; omega
            have hout' := Lib.hid hout
            clear hp hz hzn hless hcmp hinv hsym hctx hout
            generalize d2 j = x at *
            generalize d2 p = y at *
            go_wp2
            go_region_held3 (fun w' => w'.cell? ⟨g, j, none⟩ = some (.int .i64 x) ∧ w'.cell? ⟨g, p, none⟩ = some (.int .i64 y)) (go_keep)
              ((go_at_call 29; refine (HC.out 1).mono ?_; rintro e _ ⟨rfl, k1, rfl⟩))
            go_wp2
            go_region
            go_wp2
            go_roundw
            case rel =>
              have ho : Out g (g + 1) wr _ := (((Out.drewN g (g + 1) wr (1 + k1)).setCell j (.int .i64 ((y : Nat) : Int))).setCell p (.int .i64 ((x : Nat) : Int))).trans (Out.drewN _ _ _ 1)
              exact ⟨p, swD d2 p j, HB.out.1, HB.out.2.1, rfl, HCTX.out.step HD.out ho HSYM.out, hout'.out.trans ho, hinv2⟩
            case measure => have := HB.out.2.2; simp [intOf]; omega
          · have hz0 : ¬ z < 0 := fun e => hless (hzn.1 e)
            have hdone : Hid (SameI d d2 a b ∧ SrtI (gi fr) d2 a (i + 1)) := ⟨hinv.out.1, SrtBut.done hinv.out.2 (.inr ⟨hja, by rw [← hp]; omega⟩) haj⟩
            have HCTX := Lib.hid hctx
            have hout' := Lib.hid hout
            clear hp hz hzn hless hcmp hinv hctx hout
            generalize d2 j = x at *
            generalize d2 p = y at *
            go_wp2
            go_region_held3 (fun w' => w'.cell? ⟨g, j, none⟩ = some (.int .i64 x) ∧ w'.cell? ⟨g, p, none⟩ = some (.int .i64 y)) (go_keep)
              ((go_at_call 29; refine (HC.out 1).mono ?_; rintro e _ ⟨rfl, k1, rfl⟩))
            go_wp2
            go_roundw
            case rel => exact ⟨i + 1, d2, by omega, by omega, by go_num, HCTX.out.drewN _, hout'.out.trans (Out.drewN _ _ _ _), hdone⟩
            case measure => simp [intOf]; omega
        · obtain rfl : j = a := by omega
          have hjd : decide (j < j) = false := decide_eq_false (by omega)
          have hdone : Hid (SameI d d2 j b ∧ SrtI (gi fr) d2 j (i + 1)) := ⟨hinv.out.1, SrtBut.done hinv.out.2 (.inl rfl) haj⟩
          clear hinv
          go_wp2
          go_quiet (fail)
          go_wp2
          go_roundw
          case rel => exact ⟨i + 1, d2, by omega, by omega, by go_num, hctx.drewN _, hout.trans (Out.drewN _ _ _ _), hdone⟩
          case measure => simp [intOf]; omega
    · have hbi : b ≤ i := by omega
      have hbi2 : ¬ (i : Int) < (b : Int) := by omega
      go_wp2
      go_end0
      exact ⟨rfl, d1, hctx, hinv.out.1, fun x y h1 h2 h3 => hinv.out.2 x y h1 h2 (by omega), hout⟩
end Go.Proofs.Ytfnjjeopojdnjaa
