/-
  THE CONTRACTS OF slices' STABLE SORT with lengths' own comparison: what is left is sorted, and the same. No conditions. (Under way.)
  THE CONTRACT OF slices' symMerge with lengths' own comparison. No conditions. (Under way.)
  PURE: what symMerge does between: two runs, cut, turned, merged each for itself. No conditions.
-/
import Derived.Test.YtldgdofefcehnaaGreatDoorCan
import Derived.Test.YtldgdofefcehnaaGreatDoorBase
import Derived.Deep.RegionWith
import Derived.Deep.QuietTactic
import Derived.BigQuiet
namespace Go.Proofs.YtldgdofefcehnaaGreatDoor
section
open Go.RowKit
set_option maxRecDepth 100000
set_option linter.unusedVariables false
def cmpI (a b : Int) : Int := if a < b then -1 else if b < a then 1 else 0
theorem isNaN_c (a : Int) (w : World) : Calls Tryz.prog 157 #[.int .i64 a] w fun e w' => e = .returned (.bool false) ∧ w = w' := by
 have h : (a != a) = false := by simp
 go_enter Tryz.func157, Tryz.ntmps157
 go_wp2
 go_ret
 exact ⟨rfl, rfl⟩
theorem Compare_c (a b : Int) (w : World) : Calls Tryz.prog 121 #[.int .i64 a, .int .i64 b] w fun e w' => e = .returned (.int .i64 (cmpI a b)) ∧ w = w' := by
 have HN := Lib.hid (fun x W => isNaN_c x W)
 by_cases h1 : a < b
 ·have hc : Hid (cmpI a b = -1) := if_pos h1
  go_enter Tryz.func121, Tryz.ntmps121
  go_wp2_with (go_at_call 157; refine (HN.out _ _).mono ?_; rintro e _ ⟨rfl, rfl⟩)
  go_ret
  exact ⟨ret_i64 hc.out.symm, rfl⟩
 ·by_cases h2 : b < a
  ·have hc : Hid (cmpI a b = 1) := by unfold Hid cmpI; rw [if_neg h1, if_pos h2]
   go_enter Tryz.func121, Tryz.ntmps121
   go_wp2_with (go_at_call 157; refine (HN.out _ _).mono ?_; rintro e _ ⟨rfl, rfl⟩)
   go_ret
   exact ⟨ret_i64 hc.out.symm, rfl⟩
  ·have hc : Hid (cmpI a b = 0) := by unfold Hid cmpI; rw [if_neg h1, if_neg h2]
   go_enter Tryz.func121, Tryz.ntmps121
   go_wp2_with (go_at_call 157; refine (HN.out _ _).mono ?_; rintro e _ ⟨rfl, rfl⟩)
   go_ret
   exact ⟨ret_i64 hc.out.symm, rfl⟩
structure FreqIn (w : World) (q : Nat) (A : Option Addr) (n c : Nat) (fr : List Int) : Prop where
 box : w.cell? ⟨q, 0, none⟩ = some (.slice A n c)
 row : IRow w A n .i64 fr
 lt : q < w.heap.size
structure FarF (g q n : Nat) (A : Option Addr) : Prop where
 box : q ≠ g
 row : 0 < n → ∀ b o, A = some ⟨b, o, none⟩ → b ≠ g
theorem FreqIn.out {w w' : World} {g q n c : Nat} {A : Option Addr} {fr : List Int} (h : FreqIn w q A n c fr) (hf : FarF g q n A) (ho : Out g (g + 1) w w') : FreqIn w' q A n c fr := by
 have hs := ho.size
 refine ⟨?_, ⟨h.row.len, h.row.max, fun hn => ?_, h.row.wf⟩, by have := h.lt; omega⟩
 ·rw [World.cell?_of_block (a := ⟨q, 0, none⟩) (ho.block q h.lt (by have := hf.box; omega))]
  exact h.box
 ·obtain ⟨b, off, e, hl, hc⟩ := h.row.cells hn
  refine ⟨b, off, e, by omega, fun i hi => ?_⟩
  rw [World.cell?_of_block (a := ⟨b, off + i, none⟩) (ho.block b hl (by have := hf.row hn b off e; omega))]
  exact hc i hi
theorem FreqIn.drewN {w : World} {q n c : Nat} {A : Option Addr} {fr : List Int} (h : FreqIn w q A n c fr) (k : Nat) : FreqIn (w.drewN k) q A n c fr := ⟨h.box, h.row.drewN k, h.lt⟩
set_option maxHeartbeats 1000000 in
theorem rarest_c {w : World} {q n c : Nat} {A : Option Addr} {fr : List Int} (h : FreqIn w q A n c fr) (x y : Nat) (hx : x < n) (hy : y < n) :
  Calls Tryz.prog 120 #[.int .i64 x, .int .i64 y, .pointer (some ⟨q, 0, none⟩)] w fun e w' => e = .returned (.int .i64 (cmpI (gi fr x) (gi fr y))) ∧ ∃ k, w' = w.drewN k := by
 have hb := h.box
 obtain ⟨b, o, rfl, hl, q1⟩ := h.row.at_ hx
 have q2 : w.cell? ⟨b, o + y, none⟩ = some (.int .i64 (gi fr y)) := by
  obtain ⟨b', o', e, _, hc⟩ := h.row.cells (by omega)
  injection e with e
  injection e with e1 e2
  subst e1 e2
  exact hc y hy
 have hxi : (x : Int) < (n : Int) := by omega
 have hyi : (y : Int) < (n : Int) := by omega
 have HC := Lib.hid (fun a b W => Compare_c a b W)
 generalize gi fr x = a at *
 generalize gi fr y = d at *
 go_enter Tryz.func120, Tryz.ntmps120
 go_wp2
 go_region_held3 (fun w' => w'.cell? ⟨q, 0, none⟩ = some (.slice (some ⟨b, o, none⟩) n c) ∧ w'.cell? ⟨b, o + x, none⟩ = some (.int .i64 a) ∧ w'.cell? ⟨b, o + y, none⟩ = some (.int .i64 d)) (go_keep)
  ((go_at_call 121; refine (HC.out a d _).mono ?_; rintro e _ ⟨rfl, rfl⟩))
 go_wp2
 go_ret
 exact ⟨rfl, 1, rfl⟩
def DRow (w : World) (g m : Nat) (d : Nat → Nat) : Prop := RowV w g m (fun i => .int .i64 ((d i : Nat) : Int))
def swapR (d : Nat → Nat) (a b n : Nat) : Nat → Nat := fun x => if a ≤ x ∧ x < a + n then d (x - a + b) else if b ≤ x ∧ x < b + n then d (x - b + a) else d x
theorem swapR_zero (d : Nat → Nat) (a b : Nat) : swapR d a b 0 = d := by
 funext x
 unfold swapR
 rw [if_neg (by omega), if_neg (by omega)]
theorem swapR_succ (d : Nat → Nat) (a b i : Nat) (h : a + i < b) (x : Nat) : swapR d a b (i + 1) x = if x = a + i then swapR d a b i (b + i) else if x = b + i then swapR d a b i (a + i) else swapR d a b i x := by
 unfold swapR
 repeat' split
 all_goals first
  | omega
  | (congr 1; omega)
set_option maxHeartbeats 2000000 in
theorem swapRange_c {w : World} {g m cg : Nat} {d : Nat → Nat} (F : Value) (a b n : Nat) (h : DRow w g m d) (hm : m ≤ 1000) (hab : a + n ≤ b) (hb : b + n ≤ m) :
  Calls Tryz.prog 183 #[.slice (some ⟨g, 0, none⟩) m cg, .int .i64 a, .int .i64 b, .int .i64 n, F] w fun e w' => e = .returned (.tuple #[]) ∧ DRow w' g m (swapR d a b n) ∧ Out g (g + 1) w w' := by
 go_enter Tryz.func183, Tryz.ntmps183
 go_wp2
 go_loopw [10] (fun i wr => ∃ k : Nat, k ≤ n ∧ i = .int .i64 k ∧ DRow wr g m (swapR d a b k) ∧ Out g (g + 1) w wr) (fun i _ => n - (intOf i).toNat)
 case atStart => exact ⟨0, by omega, rfl, by rw [swapR_zero]; exact h, Out.refl _ _ _⟩
 case round =>
  obtain ⟨k, hk, rfl, hd, hout⟩ := hrel
  by_cases hlt : k < n
  ·have hkn : (k : Int) < (n : Int) := by omega
   have hc1 := hd.cell (i := a + k) (by omega)
   have hc2 := hd.cell (i := b + k) (by omega)
   have hf1 := hd.frozen (a + k)
   have hf2 := hd.frozen (b + k)
   obtain ⟨u, hu⟩ : ∃ u, u = a + k := ⟨_, rfl⟩
   obtain ⟨v, hv⟩ : ∃ v, v = b + k := ⟨_, rfl⟩
   have hui : (a : Int) + (k : Int) = (u : Int) := by omega
   have hvi : (b : Int) + (k : Int) = (v : Int) := by omega
   have hum : (u : Int) < (m : Int) := by omega
   have hvm : (v : Int) < (m : Int) := by omega
   rw [← hu] at hc1 hf1
   rw [← hv] at hc2 hf2
   have huv : u ≠ v := by omega
   have huv1 : (u == v) = false := by rw [beq_eq_false_iff_ne]; exact huv
   have huv2 : (v == u) = false := by rw [beq_eq_false_iff_ne]; exact Ne.symm huv
   have HS := Lib.hid (fun x => swapR_succ d a b k (by omega) x)
   rw [← hu, ← hv] at HS
   have hd2 : DRow ((wr.setCell ⟨g, u, none⟩ (.int .i64 ((swapR d a b k v : Nat) : Int))).setCell ⟨g, v, none⟩ (.int .i64 ((swapR d a b k u : Nat) : Int))) g m (swapR d a b (k + 1)) := by
    refine ((hd.set u _).set v _).congr fun i hi => ?_
    rw [HS.out i]
    by_cases e1 : i = u
    ·subst e1
     rw [if_neg huv, if_pos rfl, if_pos rfl]
    ·by_cases e2 : i = v
     ·subst e2
      rw [if_pos rfl, if_neg e1, if_pos rfl]
     ·rw [if_neg e2, if_neg e1, if_neg e1, if_neg e2]
   have HD := Lib.hid hd2
   clear hd2 hd
   generalize swapR d a b k u = x at *
   generalize swapR d a b k v = y at *
   clear hu hv
   go_wp2
   go_region
   go_wp2
   go_roundw
   case rel => exact ⟨k + 1, by omega, by go_num, HD.out, ((hout.setCell u _).setCell v _).trans (Out.drewN _ _ _ 1)⟩
   case measure => simp [intOf]; omega
  ·obtain rfl : k = n := by omega
   go_wp2
   go_end0
   exact ⟨rfl, hd, hout⟩
def rotR (d : Nat → Nat) (a m b : Nat) : Nat → Nat := fun x => if a ≤ x ∧ x < a + (b - m) then d (x - a + m) else if a + (b - m) ≤ x ∧ x < b then d (x - (b - m)) else d x
theorem rot_more (d : Nat → Nat) (m i j : Nat) (hi : i ≤ m) (hj : j < i) (h0 : 0 < j) : rotR (swapR d (m - i) m j) (m - (i - j)) m (m + j) = rotR d (m - i) m (m + j) := by
 funext x
 unfold rotR swapR
 repeat' split
 all_goals first
  | omega
  | (congr 1; omega)
theorem rot_less (d : Nat → Nat) (m i j : Nat) (hi : i ≤ m) (hj : i < j) (h0 : 0 < i) : rotR (swapR d (m - i) (m + j - i) i) (m - i) m (m + (j - i)) = rotR d (m - i) m (m + j) := by
 funext x
 unfold rotR swapR
 repeat' split
 all_goals first
  | omega
  | (congr 1; omega)
theorem rot_same (d : Nat → Nat) (m i : Nat) (hi : i ≤ m) (h0 : 0 < i) : swapR d (m - i) m i = rotR d (m - i) m (m + i) := by
 funext x
 unfold rotR swapR
 repeat' split
 all_goals first
  | omega
  | (congr 1; omega)
set_option maxHeartbeats 2000000 in
theorem rotate_c {w : World} {g n cg : Nat} {d : Nat → Nat} (F : Value) (a m b : Nat) (h : DRow w g n d) (hn : n ≤ 1000) (ham : a < m) (hmb : m < b) (hb : b ≤ n) :
  Calls Tryz.prog 181 #[.slice (some ⟨g, 0, none⟩) n cg, .int .i64 a, .int .i64 m, .int .i64 b, F] w fun e w' => e = .returned (.tuple #[]) ∧ DRow w' g n (rotR d a m b) ∧ Out g (g + 1) w w' := by
 obtain ⟨i0, hi0⟩ : ∃ i0, i0 = m - a := ⟨_, rfl⟩
 obtain ⟨j0, hj0⟩ : ∃ j0, j0 = b - m := ⟨_, rfl⟩
 have h1 : (m : Int) - (a : Int) = (i0 : Int) := by omega
 have h2 : (b : Int) - (m : Int) = (j0 : Int) := by omega
 have hI := Lib.hid hi0
 have hJ := Lib.hid hj0
 clear hi0 hj0
 go_enter Tryz.func181, Tryz.ntmps181
 go_wp2
 go_loopw [10, 11] (fun vi vj wr => ∃ (i j : Nat) (d2 : Nat → Nat), 0 < i ∧ 0 < j ∧ i ≤ m ∧ m + j ≤ n ∧ vi = .int .i64 i ∧ vj = .int .i64 j ∧ DRow wr g n d2 ∧ Out g (g + 1) w wr ∧ Hid (rotR d2 (m - i) m (m + j) = rotR d a m b)) (fun vi vj _ => (intOf vi).toNat + (intOf vj).toNat)
 case atStart =>
  have := hI.out
  have := hJ.out
  exact ⟨i0, j0, d, by omega, by omega, by omega, by omega, rfl, rfl, h, Out.refl _ _ _, by unfold Hid; rw [show m - i0 = a by omega, show m + j0 = b by omega]⟩
 case round =>
  obtain ⟨i, j, d2, hi, hj, him, hjn, rfl, rfl, hd, hout, hrot⟩ := hrel
  obtain ⟨p, hp⟩ : ∃ p, p = m - i := ⟨_, rfl⟩
  have hpi : (m : Int) - (i : Int) = (p : Int) := by omega
  have HP := Lib.hid hp
  rcases Nat.lt_trichotomy i j with hlt | rfl | hlt
  ·have hne : ((i : Int) != (j : Int)) = true := by rw [bne_iff_ne]; omega
   have hgt : ¬ (j : Int) < (i : Int) := by omega
   obtain ⟨r, hr⟩ : ∃ r, r = m + j - i := ⟨_, rfl⟩
   have hri : (m : Int) + (j : Int) - (i : Int) = (r : Int) := by omega
   obtain ⟨s, hs⟩ : ∃ s, s = j - i := ⟨_, rfl⟩
   have hsi : (j : Int) - (i : Int) = (s : Int) := by omega
   have HSW := Lib.hid (swapRange_c (cg := cg) F p r i hd hn (by omega) (by omega))
   have hrl := rot_less d2 m i j him hlt hi
   rw [← hp, ← hr, ← hs] at hrl
   have HRL := Lib.hid hrl
   have HS : Hid (0 < s ∧ m + s ≤ n ∧ s < j) := by unfold Hid; omega
   clear hrl hp hr hs hlt hd
   go_wp2_with (go_at_call 183; refine HSW.out.mono ?_; rintro e w2 ⟨rfl, hd2, hout2⟩)
   go_roundw
   case rel => exact ⟨i, s, _, hi, HS.out.1, him, HS.out.2.1, rfl, rfl, hd2, hout.trans hout2, by unfold Hid; rw [← HP.out, HRL.out, HP.out]; exact hrot.out⟩
   case measure => have := HS.out.2.2; simp [intOf]; omega
  ·have hne : ((i : Int) != (i : Int)) = false := by simp
   have HSW := Lib.hid (swapRange_c (cg := cg) F p m i hd hn (by omega) (by omega))
   have hrl := rot_same d2 m i him hi
   rw [hrot.out, ← hp] at hrl
   have HRL := Lib.hid hrl
   clear hrl hp hd
   go_wp2_with (go_at_call 183; refine HSW.out.mono ?_; rintro e w2 ⟨rfl, hd2, hout2⟩)
   go_end0
   rw [HRL.out] at hd2
   exact ⟨rfl, hd2, hout.trans hout2⟩
  ·have hne : ((i : Int) != (j : Int)) = true := by rw [bne_iff_ne]; omega
   have hgt : (j : Int) < (i : Int) := by omega
   obtain ⟨s, hs⟩ : ∃ s, s = i - j := ⟨_, rfl⟩
   have hsi : (i : Int) - (j : Int) = (s : Int) := by omega
   have HSW := Lib.hid (swapRange_c (cg := cg) F p m j hd hn (by omega) (by omega))
   have hrl := rot_more d2 m i j him hlt hj
   rw [← hp, ← hs] at hrl
   have HRL := Lib.hid hrl
   have HS : Hid (0 < s ∧ s ≤ m ∧ s < i) := by unfold Hid; omega
   clear hrl hp hs hlt hd
   go_wp2_with (go_at_call 183; refine HSW.out.mono ?_; rintro e w2 ⟨rfl, hd2, hout2⟩)
   go_roundw
   case rel => exact ⟨s, j, _, HS.out.1, hj, HS.out.2.1, hjn, rfl, rfl, hd2, hout.trans hout2, by unfold Hid; rw [HRL.out, HP.out]; exact hrot.out⟩
   case measure => have := HS.out.2.2; simp [intOf]; omega
theorem cmpI_neg (a b : Int) : cmpI a b < 0 ↔ a < b := by
 unfold cmpI
 split
 ·omega
 ·split <;> omega
def SrtI (K : Nat → Int) (d : Nat → Nat) (a b : Nat) : Prop := ∀ i j, a ≤ i → i < j → j < b → K (d i) ≤ K (d j)
def cnD (d : Nat → Nat) (v : Nat) : Nat → Nat
 | 0 => 0
 | k + 1 => cnD d v k + if d k = v then 1 else 0
theorem cnD_succ (d : Nat → Nat) (v k : Nat) : cnD d v (k + 1) = cnD d v k + if d k = v then 1 else 0 := rfl
theorem cnD_congr {d d' : Nat → Nat} {v k : Nat} (h : ∀ i, i < k → d' i = d i) : cnD d' v k = cnD d v k := by
 induction k with
 | zero => rfl
 | succ k ih => rw [cnD_succ, cnD_succ, ih fun i hi => h i (by omega), h k (by omega)]
def SameI (d d' : Nat → Nat) (a b : Nat) : Prop := (∀ i, i < a ∨ b ≤ i → d' i = d i) ∧ ∀ v, cnD d' v b = cnD d v b
theorem SameI.refl (d : Nat → Nat) (a b : Nat) : SameI d d a b := ⟨fun _ _ => rfl, fun _ => rfl⟩
theorem SameI.trans {d e f : Nat → Nat} {a b : Nat} (h : SameI d e a b) (k : SameI e f a b) : SameI d f a b := ⟨fun i hi => (k.1 i hi).trans (h.1 i hi), fun v => (k.2 v).trans (h.2 v)⟩
theorem cnD_ge {d d' : Nat → Nat} {v b : Nat} (h : ∀ i, b ≤ i → d' i = d i) (h2 : cnD d' v b = cnD d v b) : ∀ c, b ≤ c → cnD d' v c = cnD d v c := by
 intro c
 induction c with
 | zero => intro hc; obtain rfl : b = 0 := by omega
           rfl
 | succ c ih =>
  intro hc
  by_cases e : b = c + 1
  ·subst e; exact h2
  ·rw [cnD_succ, cnD_succ, ih (by omega), h c (by omega)]
theorem SameI.wide {d d' : Nat → Nat} {a b a' b' : Nat} (h : SameI d d' a b) (ha : a' ≤ a) (hb : b ≤ b') : SameI d d' a' b' :=
 ⟨fun i hi => h.1 i (by omega), fun v => cnD_ge (fun i hi => h.1 i (.inr hi)) (h.2 v) b' hb⟩
theorem cnD_mono (d : Nat → Nat) (v : Nat) {a b : Nat} (h : a ≤ b) : cnD d v a ≤ cnD d v b := by
 induction b with
 | zero => obtain rfl : a = 0 := by omega
           exact Nat.le_refl _
 | succ b ih =>
  by_cases e : a = b + 1
  ·subst e; exact Nat.le_refl _
  ·have := ih (by omega)
   rw [cnD_succ]
   omega
theorem cnD_find {d : Nat → Nat} {v a b : Nat} (h : cnD d v a < cnD d v b) : ∃ j, a ≤ j ∧ j < b ∧ d j = v := by
 induction b with
 | zero => simp [cnD] at h
 | succ b ih =>
  by_cases h1 : cnD d v a < cnD d v b
  ·obtain ⟨j, h2, h3, h4⟩ := ih h1
   exact ⟨j, h2, by omega, h4⟩
  ·rw [cnD_succ] at h
   by_cases h2 : d b = v
   ·refine ⟨b, ?_, by omega, h2⟩
    by_cases h3 : a ≤ b
    ·exact h3
    ·have := cnD_mono d v (show b + 1 ≤ a by omega)
     rw [cnD_succ, if_pos h2] at this
     rw [if_pos h2] at h
     omega
   ·rw [if_neg h2] at h
    omega
theorem SameI.mem {d d' : Nat → Nat} {a b i : Nat} (h : SameI d d' a b) (h1 : a ≤ i) (h2 : i < b) : ∃ j, a ≤ j ∧ j < b ∧ d' i = d j := by
 have h3 : cnD d' (d' i) i < cnD d' (d' i) b := by
  have := cnD_mono d' (d' i) (show i + 1 ≤ b by omega)
  rw [cnD_succ, if_pos rfl] at this
  omega
 have h4 := cnD_mono d' (d' i) h1
 have h5 : cnD d' (d' i) a = cnD d (d' i) a := cnD_congr fun x hx => h.1 x (.inl hx)
 have h6 := h.2 (d' i)
 obtain ⟨j, h7, h8, h9⟩ := cnD_find (d := d) (v := d' i) (a := a) (b := b) (by omega)
 exact ⟨j, h7, h8, h9.symm⟩
def swD (d : Nat → Nat) (u v : Nat) : Nat → Nat := fun x => if x = u then d v else if x = v then d u else d x
theorem swD_cn (d : Nat → Nat) (u x : Nat) : ∀ k, u + 1 < k → cnD (swD d u (u + 1)) x k = cnD d x k := by
 have hlo : ∀ k, k ≤ u → cnD (swD d u (u + 1)) x k = cnD d x k := fun k hk => cnD_congr fun i hi => by
  unfold swD
  rw [if_neg (by omega), if_neg (by omega)]
 intro k
 induction k with
 | zero => intro h; omega
 | succ k ih =>
  intro h
  by_cases e : k = u + 1
  ·subst e
   rw [cnD_succ, cnD_succ, cnD_succ, cnD_succ, hlo u (Nat.le_refl _)]
   have e1 : swD d u (u + 1) u = d (u + 1) := if_pos rfl
   have e2 : swD d u (u + 1) (u + 1) = d u := by unfold swD; rw [if_neg (by omega), if_pos rfl]
   rw [e1, e2]
   omega
  ·have e3 : swD d u (u + 1) k = d k := by unfold swD; rw [if_neg (by omega), if_neg (by omega)]
   rw [cnD_succ, cnD_succ, ih (by omega), e3]
theorem swD_same (d : Nat → Nat) {a b u : Nat} (ha : a ≤ u) (hb : u + 1 < b) : SameI d (swD d u (u + 1)) a b := by
 refine ⟨fun i hi => ?_, fun v => swD_cn d u v b hb⟩
 unfold swD
 rw [if_neg (by omega), if_neg (by omega)]
def SrtBut (K : Nat → Int) (d : Nat → Nat) (a e j : Nat) : Prop := ∀ x y, a ≤ x → x < y → y ≤ e → y ≠ j → K (d x) ≤ K (d y)
theorem SrtBut.swap {K : Nat → Int} {d : Nat → Nat} {a e j : Nat} (h : SrtBut K d a e (j + 1)) (haj : a ≤ j) (hje : j + 1 ≤ e) (hlt : K (d (j + 1)) < K (d j)) : SrtBut K (swD d j (j + 1)) a e j := by
 intro x y hx hxy hy hne
 unfold swD
 by_cases e1 : y = j + 1
 ·subst e1
  rw [if_neg (c := j + 1 = j) (by omega), if_pos rfl]
  by_cases e2 : x = j
  ·subst e2
   rw [if_pos rfl]
   omega
  ·rw [if_neg e2, if_neg (by omega)]
   exact h x j hx (by omega) (by omega) (by omega)
 ·rw [if_neg hne, if_neg e1]
  by_cases e2 : x = j
  ·subst e2
   rw [if_pos rfl]
   exact h (x + 1) y (by omega) (by omega) hy e1
  ·rw [if_neg e2]
   by_cases e3 : x = j + 1
   ·subst e3
    rw [if_pos rfl]
    exact h j y haj (by omega) hy e1
   ·rw [if_neg e3]
    exact h x y hx hxy hy e1
theorem SrtBut.done {K : Nat → Int} {d : Nat → Nat} {a e j : Nat} (h : SrtBut K d a e j) (hj : j = a ∨ (a < j ∧ K (d (j - 1)) ≤ K (d j))) (haj : a ≤ j) : SrtI K d a (e + 1) := by
 intro x y hx hxy hy
 by_cases e1 : y = j
 ·subst e1
  rcases hj with h1 | ⟨h1, h2⟩
  ·omega
  ·by_cases e2 : x = y - 1
   ·subst e2; exact h2
   ·exact Int.le_trans (h x (y - 1) hx (by omega) (by omega) (by omega)) h2
 ·exact h x y hx hxy (by omega) e1
structure CtxS (w : World) (g m q : Nat) (A : Option Addr) (n c : Nat) (fr : List Int) (d : Nat → Nat) : Prop where
 row : DRow w g m d
 fq : FreqIn w q A n c fr
 far : FarF g q n A
 sym : ∀ i, i < m → d i < n
theorem CtxS.step {w w' : World} {g m q n c : Nat} {A : Option Addr} {fr : List Int} {d d' : Nat → Nat} (h : CtxS w g m q A n c fr d) (hr : DRow w' g m d') (ho : Out g (g + 1) w w') (hs : ∀ i, i < m → d' i < n) : CtxS w' g m q A n c fr d' := ⟨hr, h.fq.out h.far ho, h.far, hs⟩
theorem SameI.sym {d d' : Nat → Nat} {a b m n : Nat} (h : SameI d d' a b) (hb : b ≤ m) (hs : ∀ i, i < m → d i < n) : ∀ i, i < m → d' i < n := fun i hi => by
 by_cases h1 : i < a ∨ b ≤ i
 ·rw [h.1 i h1]; exact hs i hi
 ·obtain ⟨j, h2, h3, h4⟩ := h.mem (i := i) (by omega) (by omega)
  rw [h4]
  exact hs j (by omega)
theorem CtxS.drewN {w : World} {g m q n c : Nat} {A : Option Addr} {fr : List Int} {d : Nat → Nat} (h : CtxS w g m q A n c fr d) (k : Nat) : CtxS (w.drewN k) g m q A n c fr d := ⟨h.row, h.fq.drewN k, h.far, h.sym⟩
theorem swD_low {d : Nat → Nat} {p x : Nat} (h : x < p) : swD d p (p + 1) x = d x := by unfold swD; rw [if_neg (by omega), if_neg (by omega)]
theorem swD_fst {d : Nat → Nat} {p : Nat} : swD d p (p + 1) p = d (p + 1) := by unfold swD; rw [if_pos rfl]
theorem swD_inc {d : Nat → Nat} {a b i p : Nat} (hp : p + 1 ≤ i) (ha : a ≤ p) (h : ∀ x y, a ≤ x → x < y → i + 1 ≤ y → y < b → d x < d y) : ∀ x y, a ≤ x → x < y → i + 1 ≤ y → y < b → swD d p (p + 1) x < swD d p (p + 1) y := by
 intro x y h1 h2 h3 h4
 have e : swD d p (p + 1) y = d y := by unfold swD; rw [if_neg (by omega), if_neg (by omega)]
 rw [e]
 unfold swD
 split
 ·exact h _ _ (by omega) (by omega) h3 h4
 ·split
  ·exact h _ _ (by omega) (by omega) h3 h4
  ·exact h _ _ h1 h2 h3 h4
def Agr (fr : List Int) (K : Nat → Int) (d : Nat → Nat) (a e b : Nat) : Prop := ∀ i j, a ≤ i → i < e → e ≤ j → j < b → (gi fr (d j) < gi fr (d i) ↔ K (d j) < K (d i))
set_option maxHeartbeats 4000000 in
theorem insertion_c {w : World} {g m cg q n c : Nat} {A : Option Addr} {fr : List Int} {d : Nat → Nat} {K : Nat → Int} (hK : ∀ x y, y < x → (gi fr x < gi fr y ↔ K x < K y)) (h : CtxS w g m q A n c fr d) (hm : m ≤ 1000) (a b : Nat) (hab : a ≤ b) (hbm : b ≤ m) (hinc : ∀ x y, a ≤ x → x < y → y < b → d x < d y) :
  Calls Tryz.prog 175 #[.slice (some ⟨g, 0, none⟩) m cg, .int .i64 a, .int .i64 b, .func (.func 120) #[] #[.pointer (some ⟨q, 0, none⟩)]] w fun e w' => ∃ d', e = .returned (.tuple #[]) ∧ CtxS w' g m q A n c fr d' ∧ SameI d d' a b ∧ SrtI K d' a b ∧ Out g (g + 1) w w' := by
 have HKK := Lib.hid hK
 have HINC := Lib.hid hinc
 clear hK hinc
 go_enter Tryz.func175, Tryz.ntmps175
 go_wp2
 go_loopw [8] (fun vi wr => ∃ (i : Nat) (d1 : Nat → Nat), a + 1 ≤ i ∧ i ≤ max b (a + 1) ∧ vi = .int .i64 i ∧ CtxS wr g m q A n c fr d1 ∧ Out g (g + 1) w wr ∧ Hid (SameI d d1 a b ∧ SrtI K d1 a i ∧ ∀ x y, a ≤ x → x < y → i ≤ y → y < b → d1 x < d1 y)) (fun vi _ => b - (intOf vi).toNat)
 case atStart => exact ⟨a + 1, d, Nat.le_refl _, by omega, by go_num, h, Out.refl _ _ _, ⟨SameI.refl _ _ _, fun x y h1 h2 h3 => by omega, fun x y h1 h2 _ h4 => HINC.out x y h1 h2 h4⟩⟩
 case round =>
  obtain ⟨i, d1, hai, hib, rfl, hctx, hout, hinv⟩ := hrel
  by_cases hlt : i < b
  ·have hilt : (i : Int) < (b : Int) := by omega
   go_wp2
   go_loopw [9] (fun vj wr => ∃ (j : Nat) (d2 : Nat → Nat), a ≤ j ∧ j ≤ i ∧ vj = .int .i64 j ∧ CtxS wr g m q A n c fr d2 ∧ Out g (g + 1) w wr ∧ Hid (SameI d d2 a b ∧ SrtBut K d2 a i j ∧ (∀ x, a ≤ x → x < j → d2 x < d2 j) ∧ ∀ x y, a ≤ x → x < y → i + 1 ≤ y → y < b → d2 x < d2 y)) (fun vj _ => (intOf vj).toNat)
   case atStart => exact ⟨i, d1, by omega, Nat.le_refl _, rfl, hctx, hout, ⟨hinv.out.1, fun x y h1 h2 h3 h4 => hinv.out.2.1 x y h1 h2 (by omega), fun x h1 h2 => hinv.out.2.2 x i h1 h2 (Nat.le_refl _) hlt, fun x y h1 h2 h3 h4 => hinv.out.2.2 x y h1 h2 (by omega) h4⟩⟩
   case round =>
    clear hctx hout hinv
    obtain ⟨j, d2, haj, hji, rfl, hctx, hout, hinv⟩ := hrel
    by_cases hja : a < j
    ·have hjd : decide (a < j) = true := decide_eq_true hja
     have hjd2 : decide ((a : Int) < (j : Int)) = true := decide_eq_true (by omega)
     obtain ⟨p, hp⟩ : ∃ p, p = j - 1 := ⟨_, rfl⟩
     have hpi : IntKind.i64.wrap ((j : Int) - 1) = (p : Int) := (IntWalk.i64_in _ (by omega)).trans (by omega)
     have hjm : (j : Int) < (m : Int) := by omega
     have hpm : (p : Int) < (m : Int) := by omega
     have hc1 := hctx.row.cell (i := j) (by omega)
     have hc2 := hctx.row.cell (i := p) (by omega)
     have hcmp := fun k => rarest_c (hctx.fq.drewN k) (d2 j) (d2 p) (hctx.sym j (by omega)) (hctx.sym p (by omega))
     obtain ⟨z, hz⟩ : ∃ z, z = cmpI (gi fr (d2 j)) (gi fr (d2 p)) := ⟨_, rfl⟩
     have hzn := cmpI_neg (gi fr (d2 j)) (gi fr (d2 p))
     rw [← hz] at hzn
     simp only [← hz] at hcmp
     have HC := Lib.hid hcmp
     have HP := Lib.hid hp
     have hag := HKK.out (d2 j) (d2 p) (hinv.out.2.2.1 p (by omega) (by omega))
     by_cases hless : K (d2 j) < K (d2 p)
     ·have hz0 := hzn.2 (hag.2 hless)
      have hinv2 : Hid (SameI d (swD d2 p j) a b ∧ SrtBut K (swD d2 p j) a i p ∧ (∀ x, a ≤ x → x < p → swD d2 p j x < swD d2 p j p) ∧ ∀ x y, a ≤ x → x < y → i + 1 ≤ y → y < b → swD d2 p j x < swD d2 p j y) := by
       have e : j = p + 1 := by omega
       rw [e] at hless hinv ⊢
       exact ⟨hinv.out.1.trans (swD_same d2 (by omega) (by omega)), SrtBut.swap hinv.out.2.1 (by omega) (by omega) hless, fun x h1 h2 => by rw [swD_low h2, swD_fst]; exact hinv.out.2.2.1 x h1 (by omega), swD_inc (by omega) (by omega) hinv.out.2.2.2⟩
      have hsym : ∀ i, i < m → swD d2 p j i < n := fun x hx => by
       unfold swD
       split
       ·exact hctx.sym j (by omega)
       ·split
        ·exact hctx.sym p (by omega)
        ·exact hctx.sym x hx
      have HSYM := Lib.hid hsym
      have hf1 := hctx.row.frozen j
      have hf2 := hctx.row.frozen p
      have hpj : p ≠ j := by omega
      have HD : Hid (DRow ((wr.setCell ⟨g, j, none⟩ (.int .i64 ((d2 p : Nat) : Int))).setCell ⟨g, p, none⟩ (.int .i64 ((d2 j : Nat) : Int))) g m (swD d2 p j)) := by
       refine ((hctx.row.set j _).set p _).congr fun x hx => ?_
       unfold swD
       by_cases e1 : x = p
       ·rw [if_pos e1, if_pos e1]
       ·rw [if_neg e1, if_neg e1]
        by_cases e2 : x = j
        ·rw [if_pos e2, if_pos e2]
        ·rw [if_neg e2, if_neg e2]
      have HCTX := Lib.hid hctx
      have hpj1 : (p == j) = false := by rw [beq_eq_false_iff_ne]; exact hpj
      have hpj2 : (j == p) = false := by rw [beq_eq_false_iff_ne]; exact Ne.symm hpj
      have HB : Hid (a ≤ p ∧ p ≤ i ∧ p < j) := by unfold Hid; omega
      have hout' := Lib.hid hout
      clear hp hz hzn hag hless hcmp hinv hsym hctx hout
      generalize d2 j = x at *
      generalize d2 p = y at *
      go_wp2
      go_region_held3 (fun w' => w'.cell? ⟨g, j, none⟩ = some (.int .i64 x) ∧ w'.cell? ⟨g, p, none⟩ = some (.int .i64 y)) (go_keep)
       ((go_at_call 120; refine (HC.out 1).mono ?_; rintro e _ ⟨rfl, k1, rfl⟩))
      go_wp2
      go_region
      go_wp2
      go_roundw
      case rel =>
       have ho : Out g (g + 1) wr _ := (((Out.drewN g (g + 1) wr (1 + k1)).setCell j (.int .i64 ((y : Nat) : Int))).setCell p (.int .i64 ((x : Nat) : Int))).trans (Out.drewN _ _ _ 1)
       exact ⟨p, swD d2 p j, HB.out.1, HB.out.2.1, rfl, HCTX.out.step HD.out ho HSYM.out, hout'.out.trans ho, hinv2⟩
      case measure => have := HB.out.2.2; simp [intOf]; omega
     ·have hz0 : ¬ z < 0 := fun e => hless (hag.1 (hzn.1 e))
      have hdone : Hid (SameI d d2 a b ∧ SrtI K d2 a (i + 1) ∧ ∀ x y, a ≤ x → x < y → i + 1 ≤ y → y < b → d2 x < d2 y) := ⟨hinv.out.1, SrtBut.done hinv.out.2.1 (.inr ⟨hja, by rw [← hp]; omega⟩) haj, hinv.out.2.2.2⟩
      have HCTX := Lib.hid hctx
      have hout' := Lib.hid hout
      clear hp hz hzn hag hless hcmp hinv hctx hout
      generalize d2 j = x at *
      generalize d2 p = y at *
      go_wp2
      go_region_held3 (fun w' => w'.cell? ⟨g, j, none⟩ = some (.int .i64 x) ∧ w'.cell? ⟨g, p, none⟩ = some (.int .i64 y)) (go_keep)
       ((go_at_call 120; refine (HC.out 1).mono ?_; rintro e _ ⟨rfl, k1, rfl⟩))
      go_wp2
      go_roundw
      case rel => exact ⟨i + 1, d2, by omega, by omega, by go_num, HCTX.out.drewN _, hout'.out.trans (Out.drewN _ _ _ _), hdone⟩
      case measure => simp [intOf]; omega
    ·obtain rfl : j = a := by omega
     have hjd : decide (j < j) = false := decide_eq_false (by omega)
     have hdone : Hid (SameI d d2 j b ∧ SrtI K d2 j (i + 1) ∧ ∀ x y, j ≤ x → x < y → i + 1 ≤ y → y < b → d2 x < d2 y) := ⟨hinv.out.1, SrtBut.done hinv.out.2.1 (.inl rfl) haj, hinv.out.2.2.2⟩
     clear hinv
     go_wp2
     go_quiet (fail)
     go_wp2
     go_roundw
     case rel => exact ⟨i + 1, d2, by omega, by omega, by go_num, hctx.drewN _, hout.trans (Out.drewN _ _ _ _), hdone⟩
     case measure => simp [intOf]; omega
  ·have hbi : b ≤ i := by omega
   have hbi2 : ¬ (i : Int) < (b : Int) := by omega
   go_wp2
   go_end0
   exact ⟨rfl, d1, hctx, hinv.out.1, fun x y h1 h2 h3 => hinv.out.2.1 x y h1 h2 (by omega), hout⟩
end
section
open Go.RowKit
set_option maxRecDepth 100000
set_option linter.unusedVariables false
def mvR (d : Nat → Nat) (a k : Nat) : Nat → Nat := fun x => if x = k then d a else if a ≤ x ∧ x < k then d (x + 1) else d x
theorem mvR_zero (d : Nat → Nat) (a : Nat) : mvR d a a = d := by
 funext x
 unfold mvR
 split
 ·rename_i e; rw [e]
 ·rw [if_neg (by omega)]
theorem mvR_succ (d : Nat → Nat) (a k : Nat) (h : a ≤ k) : swD (mvR d a k) k (k + 1) = mvR d a (k + 1) := by
 funext x
 unfold swD mvR
 repeat' split
 all_goals first
  | omega
  | rfl
  | (congr 1; omega)
theorem mvR_srt {K : Nat → Int} {d : Nat → Nat} {a i b : Nat} (hai : a + 1 ≤ i) (hib : i ≤ b) (hs : SrtI K d (a + 1) b) (h1 : ∀ x, a + 1 ≤ x → x < i → K (d x) < K (d a)) (h2 : ∀ x, i ≤ x → x < b → K (d a) ≤ K (d x)) : SrtI K (mvR d a (i - 1)) a b := by
 intro x y hx hxy hy
 have e1 : ∀ z, z < i - 1 → a ≤ z → mvR d a (i - 1) z = d (z + 1) := fun z h3 h4 => by unfold mvR; rw [if_neg (by omega), if_pos ⟨h4, h3⟩]
 have e2 : mvR d a (i - 1) (i - 1) = d a := if_pos rfl
 have e3 : ∀ z, i ≤ z → mvR d a (i - 1) z = d z := fun z h3 => by unfold mvR; rw [if_neg (by omega), if_neg (by omega)]
 rcases Nat.lt_trichotomy x (i - 1) with h3 | h3 | h3
 ·rw [e1 x h3 hx]
  rcases Nat.lt_trichotomy y (i - 1) with h4 | h4 | h4
  ·rw [e1 y h4 (by omega)]; exact hs _ _ (by omega) (by omega) (by omega)
  ·rw [h4, e2]; exact Int.le_of_lt (h1 _ (by omega) (by omega))
  ·rw [e3 y (by omega)]; exact hs _ _ (by omega) (by omega) hy
 ·rw [h3, e2, e3 y (by omega)]
  exact h2 y (by omega) hy
 ·rw [e3 x (by omega), e3 y (by omega)]
  exact hs _ _ (by omega) hxy hy
theorem swD_sym {d : Nat → Nat} {u v m n : Nat} (hu : u < m) (hv : v < m) (h : ∀ i, i < m → d i < n) : ∀ i, i < m → swD d u v i < n := fun i hi => by
 unfold swD
 split
 ·exact h v hv
 ·split
  ·exact h u hu
  ·exact h i hi
theorem swD_row {w : World} {g m : Nat} {d : Nat → Nat} (h : DRow w g m d) (u v : Nat) (hne : u ≠ v) : DRow ((w.setCell ⟨g, u, none⟩ (.int .i64 ((d v : Nat) : Int))).setCell ⟨g, v, none⟩ (.int .i64 ((d u : Nat) : Int))) g m (swD d u v) := by
 refine ((RowV.set h u _).set v _).congr fun x hx => ?_
 unfold swD
 by_cases e1 : x = v
 ·subst e1
  rw [if_pos rfl, if_neg (Ne.symm hne), if_pos rfl]
 ·rw [if_neg e1]
  by_cases e2 : x = u
  ·subst e2
   rw [if_pos rfl, if_pos rfl]
  ·rw [if_neg e2, if_neg e2, if_neg e1]
set_option maxRecDepth 1000000 in
set_option maxHeartbeats 4000000 in
theorem symMerge_left {w : World} {g m cg q n c : Nat} {A : Option Addr} {fr : List Int} {d : Nat → Nat} (h : CtxS w g m q A n c fr d) (hm : m ≤ 1000) (a e b : Nat) (hae : e = a + 1) (heb : e < b) (hbm : b ≤ m) {K : Nat → Int} (hA : Agr fr K d a e b) (hs : SrtI K d e b) :
  Calls Tryz.prog 176 #[.slice (some ⟨g, 0, none⟩) m cg, .int .i64 a, .int .i64 e, .int .i64 b, .func (.func 120) #[] #[.pointer (some ⟨q, 0, none⟩)]] w fun e' w' => ∃ d', e' = .returned (.tuple #[]) ∧ CtxS w' g m q A n c fr d' ∧ SameI d d' a b ∧ SrtI K d' a b ∧ Out g (g + 1) w w' := by
 have h1 : IntKind.i64.wrap ((e : Int) - (a : Int)) = 1 := (IntWalk.i64_in _ (by omega)).trans (by omega)
 have h1' : (e : Int) - (a : Int) = 1 := by omega
 have HAE := Lib.hid hae
 have HS := Lib.hid hs
 have ham : (a : Int) < (m : Int) := by omega
 have HA := Lib.hid hA
 clear hae hs hA
 go_enter Tryz.func176, Tryz.ntmps176
 go_wp2
 go_loopw [10, 11] (fun vi vj wr => ∃ (i j k : Nat), e ≤ i ∧ i ≤ j ∧ j ≤ b ∧ vi = .int .i64 i ∧ vj = .int .i64 j ∧ Hid (wr = w.drewN k) ∧ Hid ((∀ x, e ≤ x → x < i → K (d x) < K (d a)) ∧ (∀ x, j ≤ x → x < b → K (d a) ≤ K (d x)))) (fun vi vj _ => (intOf vj).toNat - (intOf vi).toNat)
 case atStart => exact ⟨e, b, 0, Nat.le_refl _, by omega, Nat.le_refl _, rfl, rfl, rfl, ⟨fun x h1 h2 => by omega, fun x h1 h2 => by omega⟩⟩
 case round =>
  obtain ⟨i, j, k, hei, hij, hjb, rfl, rfl, hw, hinv⟩ := hrel
  have hctx : CtxS wr g m q A n c fr d := by rw [hw.out]; exact h.drewN k
  by_cases hlt : i < j
  ·have hlti : (i : Int) < (j : Int) := by omega
   obtain ⟨y, hy⟩ : ∃ y, y = (i + j) / 2 := ⟨_, rfl⟩
   have hyi : ((i : Int) + (j : Int)) / 2 = (y : Int) := by omega
   have hym : (y : Int) < (m : Int) := by omega
   have hc1 := hctx.row.cell (i := y) (by omega)
   have hc2 := hctx.row.cell (i := a) (by omega)
   have hcmp := fun k => rarest_c (hctx.fq.drewN k) (d y) (d a) (hctx.sym y (by omega)) (hctx.sym a (by omega))
   obtain ⟨z, hz⟩ : ∃ z, z = cmpI (gi fr (d y)) (gi fr (d a)) := ⟨_, rfl⟩
   have hzn := cmpI_neg (gi fr (d y)) (gi fr (d a))
   rw [← hz] at hzn
   simp only [← hz] at hcmp
   have HC := Lib.hid hcmp
   have HY : Hid (i ≤ y ∧ y < j) := by unfold Hid; omega
   have hag := HA.out a y (Nat.le_refl _) (by have := HAE.out; omega) (by omega) (by omega)
   by_cases hless : K (d y) < K (d a)
   ·have hz0 := hzn.2 (hag.2 hless)
    have hinv2 : Hid ((∀ x, e ≤ x → x < y + 1 → K (d x) < K (d a)) ∧ (∀ x, j ≤ x → x < b → K (d a) ≤ K (d x))) := ⟨fun x h2 h3 => by
     by_cases e1 : x = y
     ·rw [e1]; exact hless
     ·have := HS.out x y h2 (by omega) (by omega); omega, hinv.out.2⟩
    clear hy hz hzn hag hless hcmp hinv hctx
    generalize d y = x1 at *
    generalize d a = x2 at *
    go_wp2
    go_region_held3 (fun w' => w'.cell? ⟨g, y, none⟩ = some (.int .i64 x1) ∧ w'.cell? ⟨g, a, none⟩ = some (.int .i64 x2)) (go_keep)
     ((go_at_call 120; refine (HC.out 1).mono ?_; rintro e _ ⟨rfl, k1, rfl⟩))
    go_wp2
    go_roundw
    case rel => exact ⟨y + 1, j, _, by have := HY.out; omega, by have := HY.out; omega, hjb, by go_num, rfl, by unfold Hid; rw [hw.out, World.drewN_drewN], hinv2⟩
    case measure => have := HY.out; simp [intOf]; omega
   ·have hz0 : ¬ z < 0 := fun e => hless (hag.1 (hzn.1 e))
    have hinv2 : Hid ((∀ x, e ≤ x → x < i → K (d x) < K (d a)) ∧ (∀ x, y ≤ x → x < b → K (d a) ≤ K (d x))) := ⟨hinv.out.1, fun x h2 h3 => by
     by_cases e1 : x = y
     ·rw [e1]; omega
     ·have := HS.out y x (by omega) (by omega) h3; omega⟩
    clear hy hz hzn hag hless hcmp hinv hctx
    generalize d y = x1 at *
    generalize d a = x2 at *
    go_wp2
    go_region_held3 (fun w' => w'.cell? ⟨g, y, none⟩ = some (.int .i64 x1) ∧ w'.cell? ⟨g, a, none⟩ = some (.int .i64 x2)) (go_keep)
     ((go_at_call 120; refine (HC.out 1).mono ?_; rintro e _ ⟨rfl, k1, rfl⟩))
    go_wp2
    go_roundw
    case rel => exact ⟨i, y, _, hei, by have := HY.out; omega, by have := HY.out; omega, rfl, rfl, by unfold Hid; rw [hw.out, World.drewN_drewN], hinv2⟩
    case measure => have := HY.out; simp [intOf]; omega
  ·obtain rfl : i = j := by omega
   have hout : Out g (g + 1) w wr := by rw [hw.out]; exact Out.drewN _ _ _ _
   have hfin : Hid (SrtI K (mvR d a (i - 1)) a b) := mvR_srt (by have := HAE.out; omega) hjb (by rw [← HAE.out]; exact HS.out) (fun x h2 h3 => hinv.out.1 x (by have := HAE.out; omega) h3) hinv.out.2
   obtain ⟨s, hs⟩ : ∃ s, s = i - 1 := ⟨_, rfl⟩
   rw [← hs] at hfin
   have hsi : IntKind.i64.wrap ((i : Int) - 1) = (s : Int) := (IntWalk.i64_in _ (by omega)).trans (by omega)
   have hsi' : (i : Int) - 1 = (s : Int) := by omega
   have HSB : Hid (a ≤ s ∧ s < b) := by have := HAE.out; unfold Hid; omega
   clear hinv hs
   go_wp2
   go_loopw [13] (fun vk W => ∃ k : Nat, a ≤ k ∧ k ≤ s ∧ vk = .int .i64 k ∧ CtxS W g m q A n c fr (mvR d a k) ∧ Hid (SameI d (mvR d a k) a b) ∧ Out g (g + 1) w W) (fun vk _ => s - (intOf vk).toNat)
   case atStart => exact ⟨a, Nat.le_refl _, HSB.out.1, rfl, by rw [mvR_zero]; exact hctx, by unfold Hid; rw [mvR_zero]; exact SameI.refl _ _ _, hout⟩
   case round =>
    clear hctx hout hw
    obtain ⟨k, hak, hks, rfl, hctx, hsame, hout⟩ := hrel
    by_cases hlt2 : k < s
    ·have hki : (k : Int) < (s : Int) := by omega
     obtain ⟨v, hv⟩ : ∃ v, v = k + 1 := ⟨_, rfl⟩
     have hvi : IntKind.i64.wrap ((k : Int) + 1) = (v : Int) := (IntWalk.i64_in _ (by omega)).trans (by omega)
     have hsb := HSB.out
     have hkm : (k : Int) < (m : Int) := by omega
     have hvm : (v : Int) < (m : Int) := by omega
     have hc1 := hctx.row.cell (i := k) (by omega)
     have hc2 := hctx.row.cell (i := v) (by omega)
     have hf1 := hctx.row.frozen k
     have hf2 := hctx.row.frozen v
     have hkv : k ≠ v := by omega
     have HD := Lib.hid (swD_row hctx.row k v hkv)
     have HSY := Lib.hid (swD_sym (u := k) (v := v) (by omega) (by omega) hctx.sym)
     have hmv := mvR_succ d a k hak
     rw [← hv] at hmv
     have HMV := Lib.hid hmv
     have HSM : Hid (SameI d (mvR d a v) a b) := by
      unfold Hid
      rw [← HMV.out, hv]
      exact hsame.out.trans (swD_same _ hak (by omega))
     have HCTX := Lib.hid hctx
     have HVK : Hid (v = k + 1) := hv
     have hkv1 : (k == v) = false := by rw [beq_eq_false_iff_ne]; exact hkv
     have hkv2 : (v == k) = false := by rw [beq_eq_false_iff_ne]; exact Ne.symm hkv
     clear hv hmv hctx hsb
     generalize mvR d a k k = x1 at *
     generalize mvR d a k v = x2 at *
     go_wp2
     go_region
     go_wp2
     go_roundw
     case rel =>
      have ho : Out g (g + 1) wr _ := ((Out.refl g (g + 1) wr).setCell k (.int .i64 ((x2 : Nat) : Int))).setCell v (.int .i64 ((x1 : Nat) : Int))
      have hc := HCTX.out.step HD.out ho HSY.out
      rw [HMV.out] at hc
      exact ⟨v, by have := HVK.out; omega, by have := HVK.out; omega, rfl, hc.drewN 1, HSM, hout.trans (ho.trans (Out.drewN _ _ _ 1))⟩
     case measure => have := HVK.out; simp [intOf]; omega
    ·obtain rfl : k = s := by omega
     go_wp2
     refine bodyPost_ret (results_none rfl _ _ _) rfl ?_
     exact ⟨_, rfl, hctx, hsame.out, hfin.out, hout⟩
def mvL (d : Nat → Nat) (e k : Nat) : Nat → Nat := fun x => if x = k then d e else if k < x ∧ x ≤ e then d (x - 1) else d x
theorem mvL_zero (d : Nat → Nat) (e : Nat) : mvL d e e = d := by
 funext x
 unfold mvL
 split
 ·rename_i h; rw [h]
 ·rw [if_neg (by omega)]
theorem mvL_succ (d : Nat → Nat) (e k : Nat) (h : k + 1 ≤ e) : swD (mvL d e (k + 1)) k (k + 1) = mvL d e k := by
 funext x
 unfold swD mvL
 repeat' split
 all_goals first
  | omega
  | rfl
  | (congr 1; omega)
theorem mvL_srt {K : Nat → Int} {d : Nat → Nat} {a i e : Nat} (hai : a ≤ i) (hie : i ≤ e) (hs : SrtI K d a e) (h1 : ∀ x, a ≤ x → x < i → K (d x) ≤ K (d e)) (h2 : ∀ x, i ≤ x → x < e → K (d e) < K (d x)) : SrtI K (mvL d e i) a (e + 1) := by
 intro x y hx hxy hy
 have e1 : ∀ z, z < i → mvL d e i z = d z := fun z h3 => by unfold mvL; rw [if_neg (by omega), if_neg (by omega)]
 have e2 : mvL d e i i = d e := if_pos rfl
 have e3 : ∀ z, i < z → z ≤ e → mvL d e i z = d (z - 1) := fun z h3 h4 => by unfold mvL; rw [if_neg (by omega), if_pos ⟨h3, h4⟩]
 rcases Nat.lt_trichotomy x i with h3 | h3 | h3
 ·rw [e1 x h3]
  rcases Nat.lt_trichotomy y i with h4 | h4 | h4
  ·rw [e1 y h4]; exact hs _ _ hx hxy (by omega)
  ·rw [h4, e2]; exact h1 x hx h3
  ·rw [e3 y h4 (by omega)]; exact hs _ _ hx (by omega) (by omega)
 ·rw [h3, e2, e3 y (by omega) (by omega)]
  exact Int.le_of_lt (h2 _ (by omega) (by omega))
 ·rw [e3 x h3 (by omega), e3 y (by omega) (by omega)]
  exact hs _ _ (by omega) (by omega) (by omega)
set_option maxRecDepth 1000000 in
set_option maxHeartbeats 4000000 in
theorem symMerge_right {w : World} {g m cg q n c : Nat} {A : Option Addr} {fr : List Int} {d : Nat → Nat} (h : CtxS w g m q A n c fr d) (hm : m ≤ 1000) (a e b : Nat) (hae : a + 2 ≤ e) (heb : b = e + 1) (hbm : b ≤ m) {K : Nat → Int} (hA : Agr fr K d a e b) (hs : SrtI K d a e) :
  Calls Tryz.prog 176 #[.slice (some ⟨g, 0, none⟩) m cg, .int .i64 a, .int .i64 e, .int .i64 b, .func (.func 120) #[] #[.pointer (some ⟨q, 0, none⟩)]] w fun e' w' => ∃ d', e' = .returned (.tuple #[]) ∧ CtxS w' g m q A n c fr d' ∧ SameI d d' a b ∧ SrtI K d' a b ∧ Out g (g + 1) w w' := by
 obtain ⟨u, hu⟩ : ∃ u, u = e - a := ⟨_, rfl⟩
 have h1 : IntKind.i64.wrap ((e : Int) - (a : Int)) = (u : Int) := (IntWalk.i64_in _ (by omega)).trans (by omega)
 have h1' : (e : Int) - (a : Int) = (u : Int) := by omega
 have h2 : ((u : Int) == 1) = false := by rw [beq_eq_false_iff_ne]; omega
 have h3 : IntKind.i64.wrap ((b : Int) - (e : Int)) = 1 := (IntWalk.i64_in _ (by omega)).trans (by omega)
 have h3' : (b : Int) - (e : Int) = 1 := by omega
 have HEB := Lib.hid heb
 have HAE := Lib.hid hae
 have HS := Lib.hid hs
 have hem : (e : Int) < (m : Int) := by omega
 have HA := Lib.hid hA
 clear hae hs hu heb hA
 go_enter Tryz.func176, Tryz.ntmps176
 go_wp2
 go_loopw [14, 15] (fun vi vj wr => ∃ (i j k : Nat), a ≤ i ∧ i ≤ j ∧ j ≤ e ∧ vi = .int .i64 i ∧ vj = .int .i64 j ∧ Hid (wr = w.drewN k) ∧ Hid ((∀ x, a ≤ x → x < i → K (d x) ≤ K (d e)) ∧ (∀ x, j ≤ x → x < e → K (d e) < K (d x)))) (fun vi vj _ => (intOf vj).toNat - (intOf vi).toNat)
 case atStart => exact ⟨a, e, 0, Nat.le_refl _, by have := HAE.out; omega, Nat.le_refl _, rfl, rfl, rfl, ⟨fun x h1 h2 => by omega, fun x h1 h2 => by omega⟩⟩
 case round =>
  obtain ⟨i, j, k, hei, hij, hjb, rfl, rfl, hw, hinv⟩ := hrel
  have hctx : CtxS wr g m q A n c fr d := by rw [hw.out]; exact h.drewN k
  by_cases hlt : i < j
  ·have hlti : (i : Int) < (j : Int) := by omega
   obtain ⟨y, hy⟩ : ∃ y, y = (i + j) / 2 := ⟨_, rfl⟩
   have hyi : ((i : Int) + (j : Int)) / 2 = (y : Int) := by omega
   have hym : (y : Int) < (m : Int) := by omega
   have hc1 := hctx.row.cell (i := e) (by omega)
   have hc2 := hctx.row.cell (i := y) (by omega)
   have hcmp := fun k => rarest_c (hctx.fq.drewN k) (d e) (d y) (hctx.sym e (by omega)) (hctx.sym y (by omega))
   obtain ⟨z, hz⟩ : ∃ z, z = cmpI (gi fr (d e)) (gi fr (d y)) := ⟨_, rfl⟩
   have hzn := cmpI_neg (gi fr (d e)) (gi fr (d y))
   rw [← hz] at hzn
   simp only [← hz] at hcmp
   have HC := Lib.hid hcmp
   have HY : Hid (i ≤ y ∧ y < j) := by unfold Hid; omega
   have hag := HA.out y e (by omega) (by omega) (Nat.le_refl _) (by have := HEB.out; omega)
   by_cases hless : K (d e) < K (d y)
   ·have hz0 := hzn.2 (hag.2 hless)
    have hz1 : decide (0 ≤ z) = false := decide_eq_false (by omega)
    have hz2 : decide (z < 0) = true := decide_eq_true hz0
    have hz3 : ¬ 0 ≤ z := by omega
    have hinv2 : Hid ((∀ x, a ≤ x → x < i → K (d x) ≤ K (d e)) ∧ (∀ x, y ≤ x → x < e → K (d e) < K (d x))) := ⟨hinv.out.1, fun x h2 h3 => by
     by_cases e1 : x = y
     ·rw [e1]; exact hless
     ·have := HS.out y x (by omega) (by omega) h3; omega⟩
    clear hy hz hzn hag hless hcmp hinv hctx
    generalize d e = x1 at *
    generalize d y = x2 at *
    go_wp2
    go_region_held3 (fun w' => w'.cell? ⟨g, e, none⟩ = some (.int .i64 x1) ∧ w'.cell? ⟨g, y, none⟩ = some (.int .i64 x2)) (go_keep)
     ((go_at_call 120; refine (HC.out 1).mono ?_; rintro e _ ⟨rfl, k1, rfl⟩))
    go_wp2
    go_roundw
    case rel => exact ⟨i, y, _, hei, by have := HY.out; omega, by have := HY.out; omega, rfl, rfl, by unfold Hid; rw [hw.out, World.drewN_drewN], hinv2⟩
    case measure => have := HY.out; simp [intOf]; omega
   ·have hz0 : ¬ z < 0 := fun e => hless (hag.1 (hzn.1 e))
    have hz1 : decide (0 ≤ z) = true := decide_eq_true (by omega)
    have hz2 : decide (z < 0) = false := decide_eq_false hz0
    have hinv2 : Hid ((∀ x, a ≤ x → x < y + 1 → K (d x) ≤ K (d e)) ∧ (∀ x, j ≤ x → x < e → K (d e) < K (d x))) := ⟨fun x h2 h3 => by
     by_cases e1 : x = y
     ·rw [e1]; omega
     ·have := HS.out x y h2 (by omega) (by omega); omega, hinv.out.2⟩
    clear hy hz hzn hag hless hcmp hinv hctx
    generalize d e = x1 at *
    generalize d y = x2 at *
    go_wp2
    go_region_held3 (fun w' => w'.cell? ⟨g, e, none⟩ = some (.int .i64 x1) ∧ w'.cell? ⟨g, y, none⟩ = some (.int .i64 x2)) (go_keep)
     ((go_at_call 120; refine (HC.out 1).mono ?_; rintro e _ ⟨rfl, k1, rfl⟩))
    go_wp2
    go_roundw
    case rel => exact ⟨y + 1, j, _, by have := HY.out; omega, by have := HY.out; omega, hjb, by go_num, rfl, by unfold Hid; rw [hw.out, World.drewN_drewN], hinv2⟩
    case measure => have := HY.out; simp [intOf]; omega
  ·obtain rfl : i = j := by omega
   have hout : Out g (g + 1) w wr := by rw [hw.out]; exact Out.drewN _ _ _ _
   have hfin : Hid (SrtI K (mvL d e i) a b) := by unfold Hid; rw [HEB.out]; exact mvL_srt hei hjb HS.out hinv.out.1 hinv.out.2
   clear hinv
   go_wp2
   go_loopw [17] (fun vk W => ∃ k : Nat, i ≤ k ∧ k ≤ e ∧ vk = .int .i64 k ∧ CtxS W g m q A n c fr (mvL d e k) ∧ Hid (SameI d (mvL d e k) a b) ∧ Out g (g + 1) w W) (fun vk _ => (intOf vk).toNat)
   case atStart => exact ⟨e, hjb, Nat.le_refl _, rfl, by rw [mvL_zero]; exact hctx, by unfold Hid; rw [mvL_zero]; exact SameI.refl _ _ _, hout⟩
   case round =>
    clear hctx hout hw
    obtain ⟨k, hak, hks, rfl, hctx, hsame, hout⟩ := hrel
    by_cases hlt2 : i < k
    ·have hki : (i : Int) < (k : Int) := by omega
     obtain ⟨v, hv⟩ : ∃ v, v = k - 1 := ⟨_, rfl⟩
     have hvi : IntKind.i64.wrap ((k : Int) - 1) = (v : Int) := (IntWalk.i64_in _ (by omega)).trans (by omega)
     have hkm : (k : Int) < (m : Int) := by omega
     have hvm : (v : Int) < (m : Int) := by omega
     have hc1 := hctx.row.cell (i := k) (by omega)
     have hc2 := hctx.row.cell (i := v) (by omega)
     have hf1 := hctx.row.frozen k
     have hf2 := hctx.row.frozen v
     have hkv : k ≠ v := by omega
     have HD := Lib.hid (swD_row hctx.row k v hkv)
     have HSY := Lib.hid (swD_sym (u := k) (v := v) (by omega) (by omega) hctx.sym)
     have hsw : swD (mvL d e k) k v = mvL d e v := by
      have h1 := mvL_succ d e v (by omega)
      have h2 : v + 1 = k := by omega
      rw [h2] at h1
      rw [← h1]
      funext x
      unfold swD
      repeat' split
      all_goals first
       | rfl
       | omega
     have HMV := Lib.hid hsw
     have HSM : Hid (SameI d (mvL d e v) a b) := by
      unfold Hid
      have h1 := mvL_succ d e v (by omega)
      rw [← h1]
      have h2 : v + 1 = k := by omega
      rw [h2]
      have h3 := swD_same (mvL d e k) (a := a) (b := b) (u := v) (by omega) (by omega)
      rw [h2] at h3
      exact hsame.out.trans h3
     have HCTX := Lib.hid hctx
     have HVK : Hid (k = v + 1) := by unfold Hid; omega
     have hkv1 : (k == v) = false := by rw [beq_eq_false_iff_ne]; exact hkv
     have hkv2 : (v == k) = false := by rw [beq_eq_false_iff_ne]; exact Ne.symm hkv
     clear hv hsw hctx
     generalize mvL d e k k = x1 at *
     generalize mvL d e k v = x2 at *
     go_wp2
     go_region
     go_wp2
     go_roundw
     case rel =>
      have ho : Out g (g + 1) wr _ := ((Out.refl g (g + 1) wr).setCell k (.int .i64 ((x2 : Nat) : Int))).setCell v (.int .i64 ((x1 : Nat) : Int))
      have hc := HCTX.out.step HD.out ho HSY.out
      rw [HMV.out] at hc
      exact ⟨v, by have := HVK.out; omega, by have := HVK.out; omega, rfl, hc.drewN 1, HSM, hout.trans (ho.trans (Out.drewN _ _ _ 1))⟩
     case measure => have := HVK.out; simp [intOf]; omega
    ·obtain rfl : k = i := by omega
     go_wp2
     refine bodyPost_ret (results_none rfl _ _ _) rfl ?_
     exact ⟨_, rfl, hctx, hsame.out, hfin.out, hout⟩
end
section
set_option linter.unusedVariables false
def cR (d : Nat → Nat) (v lo : Nat) : Nat → Nat
 | 0 => 0
 | k + 1 => cR d v lo k + if d (lo + k) = v then 1 else 0
theorem cR_succ (d : Nat → Nat) (v lo k : Nat) : cR d v lo (k + 1) = cR d v lo k + if d (lo + k) = v then 1 else 0 := rfl
theorem cnD_cR (d : Nat → Nat) (v lo k : Nat) : cnD d v (lo + k) = cnD d v lo + cR d v lo k := by
 induction k with
 | zero => rfl
 | succ k ih => rw [← Nat.add_assoc, cnD_succ, ih, cR_succ, Nat.add_assoc]
theorem cR_congr {d d' : Nat → Nat} {v lo lo' k : Nat} (h : ∀ i, i < k → d' (lo' + i) = d (lo + i)) : cR d' v lo' k = cR d v lo k := by
 induction k with
 | zero => rfl
 | succ k ih => rw [cR_succ, cR_succ, ih fun i hi => h i (by omega), h k (by omega)]
theorem rot_same_all (d : Nat → Nat) {s e f : Nat} (h1 : s ≤ e) (h2 : e ≤ f) : SameI d (rotR d s e f) s f := by
 refine ⟨fun i hi => ?_, fun v => ?_⟩
 ·unfold rotR
  rcases hi with hi | hi
  ·rw [if_neg (by omega), if_neg (by omega)]
  ·rw [if_neg (by omega), if_neg (by omega)]
 ·have e1 : f = s + (f - e) + (e - s) := by omega
  have e2 : f = s + (e - s) + (f - e) := by omega
  have a1 := cnD_cR (rotR d s e f) v (s + (f - e)) (e - s)
  have a2 := cnD_cR (rotR d s e f) v s (f - e)
  have b1 := cnD_cR d v (s + (e - s)) (f - e)
  have b2 := cnD_cR d v s (e - s)
  rw [← e1] at a1
  rw [← e2] at b1
  have c0 : cnD (rotR d s e f) v s = cnD d v s := cnD_congr fun i hi => by unfold rotR; rw [if_neg (by omega), if_neg (by omega)]
  have c1 : cR (rotR d s e f) v s (f - e) = cR d v (s + (e - s)) (f - e) := cR_congr fun i hi => by
   unfold rotR
   rw [if_pos (by omega)]
   congr 1
   omega
  have c2 : cR (rotR d s e f) v (s + (f - e)) (e - s) = cR d v s (e - s) := cR_congr fun i hi => by
   unfold rotR
   rw [if_neg (by omega), if_pos (by omega)]
   congr 1
   omega
  omega
structure CutS (K : Nat → Int) (d : Nat → Nat) (a e b mid s f : Nat) : Prop where
 lo0 : a ≤ s
 se : s ≤ e
 ef : e ≤ f
 fb : f ≤ b
 mm : s + (f - e) = mid
 lo : a < s → f < b → K (d (s - 1)) ≤ K (d f)
 hi : s < e → e < f → K (d (f - 1)) ≤ K (d s)
theorem CutS.turn {K : Nat → Int} {d : Nat → Nat} {a e b mid s f : Nat} (h : CutS K d a e b mid s f) (h1 : SrtI K d a e) (h2 : SrtI K d e b) :
  SrtI K (rotR d s e f) a s ∧ SrtI K (rotR d s e f) s mid ∧ SrtI K (rotR d s e f) mid f ∧ SrtI K (rotR d s e f) f b ∧ (∀ x y, a ≤ x → x < mid → mid ≤ y → y < b → K (rotR d s e f x) ≤ K (rotR d s e f y)) ∧ a ≤ mid ∧ mid ≤ b := by
 obtain ⟨has, se, ef, fb, mm, lo, hi⟩ := h
 have r1 : ∀ x, x < s → rotR d s e f x = d x := fun x hx => by unfold rotR; rw [if_neg (by omega), if_neg (by omega)]
 have r2 : ∀ x, s ≤ x → x < mid → rotR d s e f x = d (x - s + e) := fun x h1 h2 => by unfold rotR; rw [if_pos (by omega)]
 have r3 : ∀ x, mid ≤ x → x < f → rotR d s e f x = d (x - (f - e)) := fun x h1 h2 => by unfold rotR; rw [if_neg (by omega), if_pos (by omega)]
 have r4 : ∀ x, f ≤ x → rotR d s e f x = d x := fun x hx => by unfold rotR; rw [if_neg (by omega), if_neg (by omega)]
 have le1 : ∀ x y, a ≤ x → x ≤ y → y < e → K (d x) ≤ K (d y) := fun x y g1 g2 g3 => by
  by_cases e0 : x = y
  ·rw [e0]; exact Int.le_refl _
  ·exact h1 x y g1 (by omega) g3
 have le2 : ∀ x y, e ≤ x → x ≤ y → y < b → K (d x) ≤ K (d y) := fun x y g1 g2 g3 => by
  by_cases e0 : x = y
  ·rw [e0]; exact Int.le_refl _
  ·exact h2 x y g1 (by omega) g3
 refine ⟨fun x y g1 g2 g3 => ?_, fun x y g1 g2 g3 => ?_, fun x y g1 g2 g3 => ?_, fun x y g1 g2 g3 => ?_, fun x y g1 g2 g3 g4 => ?_, by omega, by omega⟩
 ·rw [r1 x (by omega), r1 y g3]; exact le1 x y g1 (by omega) (by omega)
 ·rw [r2 x g1 (by omega), r2 y (by omega) g3]; exact le2 _ _ (by omega) (by omega) (by omega)
 ·rw [r3 x g1 (by omega), r3 y (by omega) g3]; exact le1 _ _ (by omega) (by omega) (by omega)
 ·rw [r4 x g1, r4 y (by omega)]; exact le2 _ _ (by omega) (by omega) g3
 ·by_cases c1 : x < s
  ·rw [r1 x c1]
   by_cases c2 : y < f
   ·rw [r3 y g3 c2]; exact le1 _ _ g1 (by omega) (by omega)
   ·rw [r4 y (by omega)]
    exact Int.le_trans (le1 x (s - 1) g1 (by omega) (by omega)) (Int.le_trans (lo (by omega) (by omega)) (le2 f y ef (by omega) g4))
  ·rw [r2 x (by omega) g2]
   by_cases c2 : y < f
   ·rw [r3 y g3 c2]
    exact Int.le_trans (le2 _ (f - 1) (by omega) (by omega) (by omega)) (Int.le_trans (hi (by omega) (by omega)) (le1 s _ has (by omega) (by omega)))
   ·rw [r4 y (by omega)]
    exact le2 _ _ (by omega) (by omega) g4
theorem CutS.agr {fr : List Int} {K : Nat → Int} {d : Nat → Nat} {a e b mid s f : Nat} (h : CutS K d a e b mid s f) (hA : Agr fr K d a e b) : Agr fr K (rotR d s e f) a s mid ∧ Agr fr K (rotR d s e f) mid f b := by
 obtain ⟨has, se, ef, fb, mm, lo, hi⟩ := h
 have r1 : ∀ x, x < s → rotR d s e f x = d x := fun x hx => by unfold rotR; rw [if_neg (by omega), if_neg (by omega)]
 have r2 : ∀ x, s ≤ x → x < mid → rotR d s e f x = d (x - s + e) := fun x h1 h2 => by unfold rotR; rw [if_pos (by omega)]
 have r3 : ∀ x, mid ≤ x → x < f → rotR d s e f x = d (x - (f - e)) := fun x h1 h2 => by unfold rotR; rw [if_neg (by omega), if_pos (by omega)]
 have r4 : ∀ x, f ≤ x → rotR d s e f x = d x := fun x hx => by unfold rotR; rw [if_neg (by omega), if_neg (by omega)]
 refine ⟨fun i j h1 h2 h3 h4 => ?_, fun i j h1 h2 h3 h4 => ?_⟩
 ·rw [r1 i h2, r2 j h3 h4]
  exact hA _ _ h1 (by omega) (by omega) (by omega)
 ·rw [r3 i h1 h2, r4 j h3]
  exact hA _ _ (by omega) (by omega) (by omega) h4
theorem Agr.out {fr : List Int} {K : Nat → Int} {d d' : Nat → Nat} {x m e b : Nat} (hs : SameI d d' x m) (hA : Agr fr K d m e b) : Agr fr K d' m e b := fun i j h1 h2 h3 h4 => by
 rw [hs.1 i (.inr h1), hs.1 j (.inr (by omega))]
 exact hA i j h1 h2 h3 h4
theorem halves_srt {K : Nat → Int} {d d2 d3 : Nat → Nat} {a mid b : Nat} (hx : ∀ x y, a ≤ x → x < mid → mid ≤ y → y < b → K (d x) ≤ K (d y)) (s2 : SameI d d2 a mid) (h2 : SrtI K d2 a mid) (s3 : SameI d2 d3 mid b) (h3 : SrtI K d3 mid b) : SrtI K d3 a b := by
 intro x y g1 g2 g3
 by_cases c1 : y < mid
 ·rw [s3.1 x (.inl (by omega)), s3.1 y (.inl c1)]
  exact h2 x y g1 g2 c1
 ·by_cases c2 : mid ≤ x
  ·exact h3 x y c2 g2 g3
  ·rw [s3.1 x (.inl (by omega))]
   obtain ⟨j, j1, j2, j3⟩ := s3.mem (i := y) (by omega) g3
   obtain ⟨i, i1, i2, i3⟩ := s2.mem (i := x) g1 (by omega)
   rw [j3, i3, s2.1 j (.inr j1)]
   exact hx i j i1 i2 j1 j2
theorem runs_srt {K : Nat → Int} {d : Nat → Nat} {a s m : Nat} (h1 : SrtI K d a s) (h2 : SrtI K d s m) (h : ¬ (a < s ∧ s < m)) (ha : a ≤ s) : SrtI K d a m := by
 intro x y g1 g2 g3
 by_cases c : a < s
 ·exact h1 x y g1 g2 (by omega)
 ·obtain rfl : a = s := by omega
  exact h2 x y g1 g2 g3
structure Seek (K : Nat → Int) (d : Nat → Nat) (s0 r0 p s r : Nat) : Prop where
 s0s : s0 ≤ s
 sr : s ≤ r
 rr0 : r ≤ r0
 lo : ∀ x, s0 ≤ x → x < s → K (d x) ≤ K (d (p - x))
 hi : ∀ x, r ≤ x → x < r0 → K (d (p - x)) < K (d x)
def sek (a e b : Nat) : Nat × Nat := if (a + b) / 2 < e then ((a + b) / 2 + e - b, (a + b) / 2) else (a, e)
theorem sek_in {a e b : Nat} (h1 : a < e) (h2 : e < b) : a ≤ (sek a e b).1 ∧ (sek a e b).1 ≤ (sek a e b).2 ∧ (sek a e b).2 ≤ e ∧ e ≤ (a + b) / 2 + e - (sek a e b).2 ∧ (a + b) / 2 + e - (sek a e b).1 ≤ b := by
 unfold sek
 split <;> simp only [] <;> omega
theorem Seek.left {K : Nat → Int} {d : Nat → Nat} {a e b s r c : Nat} (hab : a < e ∧ e < b) (h1 : SrtI K d a e) (h2 : SrtI K d e b) (h : Seek K d (sek a e b).1 (sek a e b).2 ((a + b) / 2 + e - 1) s r) (hc : s ≤ c) (hcr : c < r) (hk : K (d c) ≤ K (d ((a + b) / 2 + e - 1 - c))) : Seek K d (sek a e b).1 (sek a e b).2 ((a + b) / 2 + e - 1) (c + 1) r := by
 obtain ⟨b1, b2, b3, b4, b5⟩ := sek_in hab.1 hab.2
 refine ⟨by have := h.s0s; omega, by omega, h.rr0, fun x g1 g2 => ?_, h.hi⟩
 have hr := h.rr0
 by_cases e0 : x = c
 ·rw [e0]; exact hk
 ·have k1 := h1 x c (by omega) (by omega) (by omega)
  have k2 := h2 ((a + b) / 2 + e - 1 - c) ((a + b) / 2 + e - 1 - x) (by omega) (by omega) (by omega)
  omega
theorem Seek.right {K : Nat → Int} {d : Nat → Nat} {a e b s r c : Nat} (hab : a < e ∧ e < b) (h1 : SrtI K d a e) (h2 : SrtI K d e b) (h : Seek K d (sek a e b).1 (sek a e b).2 ((a + b) / 2 + e - 1) s r) (hc : s ≤ c) (hcr : c < r) (hk : K (d ((a + b) / 2 + e - 1 - c)) < K (d c)) : Seek K d (sek a e b).1 (sek a e b).2 ((a + b) / 2 + e - 1) s c := by
 obtain ⟨b1, b2, b3, b4, b5⟩ := sek_in hab.1 hab.2
 have hr := h.rr0
 have hs := h.s0s
 refine ⟨hs, hc, by omega, h.lo, fun x g1 g2 => ?_⟩
 by_cases e0 : x = c
 ·rw [e0]; exact hk
 ·have k1 := h1 c x (by omega) (by omega) (by omega)
  have k2 := h2 ((a + b) / 2 + e - 1 - x) ((a + b) / 2 + e - 1 - c) (by omega) (by omega) (by omega)
  omega
theorem Seek.cut {K : Nat → Int} {d : Nat → Nat} {a e b s : Nat} (hab : a < e ∧ e < b) (h : Seek K d (sek a e b).1 (sek a e b).2 ((a + b) / 2 + e - 1) s s) : CutS K d a e b ((a + b) / 2) s ((a + b) / 2 + e - s) := by
 obtain ⟨b1, b2, b3, b4, b5⟩ := sek_in hab.1 hab.2
 have h1 := h.s0s
 have h2 := h.rr0
 refine ⟨by omega, by omega, by omega, by omega, by omega, fun g1 g2 => ?_, fun g1 g2 => ?_⟩
 ·have h3 : (sek a e b).1 < s := by
   by_cases c : (sek a e b).1 = s
   ·exfalso
    unfold sek at c
    split at c <;> simp only [] at c <;> omega
   ·omega
  have := h.lo (s - 1) (by omega) (by omega)
  rw [show (a + b) / 2 + e - 1 - (s - 1) = (a + b) / 2 + e - s by omega] at this
  exact this
 ·have h3 : s < (sek a e b).2 := by
   by_cases c : s = (sek a e b).2
   ·exfalso
    unfold sek at c
    split at c <;> simp only [] at c <;> omega
   ·omega
  have := h.hi s (Nat.le_refl _) h3
  rw [show (a + b) / 2 + e - 1 - s = (a + b) / 2 + e - s - 1 by omega] at this
  exact Int.le_of_lt this
end
end Go.Proofs.YtldgdofefcehnaaGreatDoor
