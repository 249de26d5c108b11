/-
  THE CONTRACT OF slices.SortStableFunc with lengths' own comparison: what is left is sorted, and the same. No conditions. (Under way.)
-/
import Derived.Test.YtldgdofefcehnaaGreatDoorLenV
namespace Go.Proofs.YtldgdofefcehnaaGreatDoor
open Go.RowKit
set_option maxRecDepth 100000
set_option linter.unusedVariables false
def BlkS (K : Nat → Int) (d : Nat → Nat) (S n u : Nat) : Prop := SrtI K d (S * u) (min (S * u + S) n)
def CutO (d : Nat → Nat) (n c : Nat) : Prop := ∀ x y, x < c → c ≤ y → y < n → d x < d y
theorem CutO.same {d d' : Nat → Nat} {n c a b : Nat} (h : CutO d n c) (hs : SameI d d' a b) (hb : b ≤ n) (hc : c ≤ a ∨ b ≤ c) : CutO d' n c := fun x y h1 h2 h3 => by
 have hm : ∀ i, i < n → ∃ j, d' i = d j ∧ (i < c → j < c) ∧ (c ≤ i → c ≤ j) ∧ j < n := fun i hi => by
  by_cases e : a ≤ i ∧ i < b
  ·obtain ⟨j, j1, j2, j3⟩ := hs.mem e.1 e.2
   exact ⟨j, j3, fun _ => by omega, fun _ => by omega, by omega⟩
  ·exact ⟨i, hs.1 i (by omega), fun h => h, fun h => h, hi⟩
 obtain ⟨i, e1, i1, _, _⟩ := hm x (by omega)
 obtain ⟨j, e2, _, j2, j3⟩ := hm y h3
 rw [e1, e2]
 exact h i j (i1 h1) (j2 h2) j3
theorem CutO.agr {fr : List Int} {K : Nat → Int} {d : Nat → Nat} {n a e b : Nat} (h : CutO d n e) (hK : ∀ x y, y < x → (gi fr x < gi fr y ↔ K x < K y)) (hb : b ≤ n) : Agr fr K d a e b := fun i j _ h2 h3 h4 => hK _ _ (h i j h2 h3 (by omega))
theorem srt_off {K : Nat → Int} {d d' : Nat → Nat} {a b x y : Nat} (h : SameI d d' a b) (hs : SrtI K d x y) (hx : y ≤ a ∨ b ≤ x) : SrtI K d' x y := fun i j h1 h2 h3 => by
 rw [h.1 i (by omega), h.1 j (by omega)]
 exact hs i j h1 h2 h3
set_option maxHeartbeats 4000000 in
theorem stable_c {w : World} {g m cg q n c : Nat} {A : Option Addr} {fr : List Int} {d : Nat → Nat} {K : Nat → Int} (hK : ∀ x y, y < x → (gi fr x < gi fr y ↔ K x < K y)) (hinc : ∀ x y, x < y → y < m → d x < d y) (h : CtxS w g m q A n c fr d) (hm : m ≤ 400) :
  Calls Tryz.prog 156 #[.slice (some ⟨g, 0, none⟩) m cg, .int .i64 m, .func (.func 120) #[] #[.pointer (some ⟨q, 0, none⟩)]] w fun e w' => ∃ d', e = .returned (.tuple #[]) ∧ CtxS w' g m q A n c fr d' ∧ SameI d d' 0 m ∧ SrtI K d' 0 m ∧ Out g (g + 1) w w' := by
 have HKK := Lib.hid hK
 have HINC := Lib.hid hinc
 clear hK hinc
 go_enter Tryz.func156, Tryz.ntmps156
 go_wp2
 go_loopw [7, 8] (fun va vb wr => ∃ (t a b : Nat) (d1 : Nat → Nat), a = 20 * t ∧ b = a + 20 ∧ a ≤ m ∧ va = .int .i64 a ∧ vb = .int .i64 b ∧ CtxS wr g m q A n c fr d1 ∧ Out g (g + 1) w wr ∧ Hid (SameI d d1 0 m ∧ (∀ u, u < t → BlkS K d1 20 m u) ∧ (∀ u, CutO d1 m (20 * u)) ∧ ∀ x, a ≤ x → d1 x = d x)) (fun va _ _ => m - (intOf va).toNat)
 case atStart => exact ⟨0, 0, 20, d, rfl, rfl, Nat.zero_le _, rfl, rfl, h, Out.refl _ _ _, ⟨SameI.refl _ _ _, fun u hu => by omega, fun u x y h1 h2 h3 => HINC.out x y (by omega) h3, fun _ _ => rfl⟩⟩
 case round =>
  obtain ⟨t, a, b, d1, hat, hab, ham, rfl, rfl, hctx, hout, hinv⟩ := hrel
  have HA := Lib.hid hat
  have HB := Lib.hid hab
  have hb500 : b ≤ 500 := by omega
  clear hat hab
  by_cases hlt : b ≤ m
  ·have hlti : (b : Int) ≤ (m : Int) := by omega
   have HI := Lib.hid (insertion_c (cg := cg) HKK.out hctx (by omega) a b (by have := HB.out; omega) hlt (fun x y h1 h2 h3 => by rw [hinv.out.2.2.2 x h1, hinv.out.2.2.2 y (by omega)]; exact HINC.out x y h2 (by omega)))
   clear hctx
   go_wp2_with fail
   refine HI.out.mono ?_
   rintro e w2 ⟨d2, rfl, hctx2, hs2, ht2, ho2⟩
   have hinv2 : Hid (SameI d d2 0 m ∧ (∀ u, u < t + 1 → BlkS K d2 20 m u) ∧ (∀ u, CutO d2 m (20 * u)) ∧ ∀ x, b ≤ x → d2 x = d x) := by
    have e1 := HA.out
    have e2 := HB.out
    refine ⟨hinv.out.1.trans (hs2.wide (Nat.zero_le _) hlt), fun u hu => ?_, fun u => (hinv.out.2.2.1 u).same hs2 hlt (by omega), fun x hx => by rw [hs2.1 x (.inr hx)]; exact hinv.out.2.2.2 x (by omega)⟩
    unfold BlkS
    by_cases e3 : u = t
    ·subst e3
     rw [← e1, ← e2, Nat.min_eq_left hlt]
     exact ht2
    ·exact srt_off hs2 (hinv.out.2.1 u (by omega)) (.inl (by omega))
   have hb2 : Hid (b + 20 ≤ 520) := by unfold Hid; omega
   clear hs2 ht2 hinv
   go_wp2
   go_roundw
   case rel => exact ⟨t + 1, b, b + 20, d2, by have := HA.out; have := HB.out; omega, rfl, hlt, rfl, by go_num, hctx2, hout.trans ho2, hinv2⟩
   case measure => have := HB.out; simp [intOf]; omega
  ·have hlti : ¬ (b : Int) ≤ (m : Int) := by omega
   have HI := Lib.hid (insertion_c (cg := cg) HKK.out hctx (by omega) a m ham (Nat.le_refl _) (fun x y h1 h2 h3 => by rw [hinv.out.2.2.2 x h1, hinv.out.2.2.2 y (by omega)]; exact HINC.out x y h2 h3))
   clear hctx
   go_wp2_with fail
   refine HI.out.mono ?_
   rintro e w2 ⟨d2, rfl, hctx2, hs2, ht2, ho2⟩
   have hinv2 : Hid (SameI d d2 0 m ∧ (∀ u, BlkS K d2 20 m u) ∧ ∀ u, CutO d2 m (20 * u)) := by
    have e1 := HA.out
    have e2 := HB.out
    refine ⟨hinv.out.1.trans (hs2.wide (Nat.zero_le _) (Nat.le_refl _)), fun u => ?_, fun u => (hinv.out.2.2.1 u).same hs2 (Nat.le_refl _) (by omega)⟩
    unfold BlkS
    rcases Nat.lt_trichotomy u t with e3 | e3 | e3
    ·exact srt_off hs2 (hinv.out.2.1 u e3) (.inl (by omega))
    ·subst e3
     rw [← e1, Nat.min_eq_right (by omega)]
     exact ht2
    ·exact fun i j g1 g2 g3 => by omega
   have hO2 := hout.trans ho2
   clear hs2 ht2 hinv hout ho2
   go_wp2
   go_loopw [6] (fun vs wr => ∃ (S : Nat) (d1 : Nat → Nat), 1 ≤ S ∧ S ≤ 1000 ∧ vs = .int .i64 S ∧ CtxS wr g m q A n c fr d1 ∧ Out g (g + 1) w wr ∧ Hid (SameI d d1 0 m ∧ (∀ u, BlkS K d1 S m u) ∧ ∀ u, CutO d1 m (S * u))) (fun vs _ => m - (intOf vs).toNat)
   case atStart => exact ⟨20, d2, by omega, by omega, rfl, hctx2, hO2, hinv2⟩
   case round =>
    clear hctx2 hO2 hinv2
    obtain ⟨S, d1, hS1, hS2, rfl, hctx, hout, hinv⟩ := hrel
    by_cases hlS : S < m
    ·have hlSi : (S : Int) < (m : Int) := by omega
     go_wp2
     go_loopw [7, 8] (fun va vb wr => ∃ (t a b : Nat) (d1 : Nat → Nat), a = 2 * S * t ∧ b = a + 2 * S ∧ a ≤ m ∧ va = .int .i64 a ∧ vb = .int .i64 b ∧ CtxS wr g m q A n c fr d1 ∧ Out g (g + 1) w wr ∧ Hid (SameI d d1 0 m ∧ (∀ u, u < t → BlkS K d1 (2 * S) m u) ∧ (∀ u, 2 * t ≤ u → BlkS K d1 S m u) ∧ (∀ u, CutO d1 m (2 * S * u)) ∧ ∀ u, 2 * t ≤ u → CutO d1 m (S * u))) (fun va _ _ => m - (intOf va).toNat)
     case atStart => exact ⟨0, 0, 2 * S, d1, rfl, by omega, Nat.zero_le _, rfl, by go_num, hctx, hout, ⟨hinv.out.1, fun u hu => by omega, fun u _ => hinv.out.2.1 u, fun u => by have := hinv.out.2.2 (2 * u); rwa [show S * (2 * u) = 2 * S * u by rw [Nat.mul_left_comm, Nat.mul_assoc]] at this, fun u _ => hinv.out.2.2 u⟩⟩
     case round =>
      clear hctx hout hinv
      obtain ⟨t, a, b, d3, hat, hab, ham, rfl, rfl, hctx, hout, hinv⟩ := hrel
      have k0 : S * (2 * t) = a := by rw [hat, Nat.mul_left_comm, Nat.mul_assoc]
      have k1 : S * (2 * t + 1) = a + S := by rw [Nat.mul_add, k0, Nat.mul_one]
      have k2 : ∀ u, u < t → 2 * S * u + 2 * S ≤ a := fun u hu => by
       have := Nat.mul_le_mul_left (2 * S) (show u + 1 ≤ t by omega)
       rw [Nat.mul_add, Nat.mul_one, ← hat] at this
       exact this
      have k3 : ∀ u, 2 * (t + 1) ≤ u → b ≤ S * u := fun u hu => by
       have h1 := Nat.mul_le_mul_left S hu
       have h2 : S * (2 * (t + 1)) = a + 2 * S := by rw [show 2 * (t + 1) = 2 * t + 1 + 1 by omega, Nat.mul_add, k1, Nat.mul_one]; omega
       omega
      have k4 : ∀ u, t < u → b ≤ 2 * S * u := fun u hu => by
       have h1 := Nat.mul_le_mul_left (2 * S) (show t + 1 ≤ u by omega)
       rw [Nat.mul_add, Nat.mul_one, ← hat] at h1
       omega
      have k5 : ∀ u, 2 * S * u ≤ a ∨ b ≤ 2 * S * u := fun u => by
       rcases Nat.lt_trichotomy u t with e3 | e3 | e3
       ·exact .inl (by have := k2 u e3; omega)
       ·exact .inl (by rw [e3, ← hat]; exact Nat.le_refl _)
       ·exact .inr (k4 u e3)
      have z0 : SrtI K d3 a (min (a + S) m) := by
       have := hinv.out.2.2.1 (2 * t) (Nat.le_refl _)
       unfold BlkS at this
       rwa [k0] at this
      have z1 : SrtI K d3 (a + S) (min (a + S + S) m) := by
       have := hinv.out.2.2.1 (2 * t + 1) (by omega)
       unfold BlkS at this
       rwa [k1] at this
      have z2 : CutO d3 m (a + S) := by
       have := hinv.out.2.2.2.2 (2 * t + 1) (by omega)
       rwa [k1] at this
      obtain ⟨e, he⟩ : ∃ e, e = a + S := ⟨_, rfl⟩
      have hei : (a : Int) + (S : Int) = (e : Int) := by omega
      have hb3 : b ≤ 2400 := by omega
      rw [← he] at z0 z1 z2
      by_cases hlt : b ≤ m
      ·have hlti : (b : Int) ≤ (m : Int) := by omega
       rw [Nat.min_eq_left (by omega)] at z0 z1
       have hmg : MergeOk g m cg q A n c fr K wr d3 a e b := symMerge_c (by omega) (b - a) wr d3 a e b (Nat.le_refl _) (by omega) (by omega) hlt hctx (z2.agr HKK.out hlt) z0 (by rw [show b = e + S by omega]; exact z1)
       unfold MergeOk at hmg
       have HMG := Lib.hid hmg
       have HK : Hid (b + 2 * S = 2 * S * (t + 1) + 2 * S ∧ a < b ∧ b = 2 * S * (t + 1)) := by
        have : 2 * S * (t + 1) = b := by rw [Nat.mul_add, Nat.mul_one, ← hat, hab]
        exact ⟨by rw [this], by omega, this.symm⟩
       have hinv2 : Hid (∀ d4, SameI d3 d4 a b → SrtI K d4 a b → SameI d d4 0 m ∧ (∀ u, u < t + 1 → BlkS K d4 (2 * S) m u) ∧ (∀ u, 2 * (t + 1) ≤ u → BlkS K d4 S m u) ∧ (∀ u, CutO d4 m (2 * S * u)) ∧ ∀ u, 2 * (t + 1) ≤ u → CutO d4 m (S * u)) := fun d4 hs hd => by
        refine ⟨hinv.out.1.trans (hs.wide (Nat.zero_le _) hlt), fun u hu => ?_, fun u hu => srt_off hs (hinv.out.2.2.1 u (by omega)) (.inr (k3 u hu)), fun u => (hinv.out.2.2.2.1 u).same hs hlt (k5 u), fun u hu => (hinv.out.2.2.2.2 u (by omega)).same hs hlt (.inr (k3 u hu))⟩
        unfold BlkS
        by_cases e3 : u = t
        ·subst e3
         rw [← hat, ← hab, Nat.min_eq_left hlt]
         exact hd
        ·exact srt_off hs (hinv.out.2.1 u (by omega)) (.inl (by have := k2 u (by omega); omega))
       clear k0 k1 k2 k3 k4 k5 z0 z1 z2 hmg hat hab he hinv hctx
       go_wp2_with fail
       refine HMG.out.mono ?_
       rintro e' w4 ⟨d4, rfl, hctx4, hs4, ht4, ho4⟩
       have hinv3 := Lib.hid (hinv2.out d4 hs4 ht4)
       clear hs4 ht4 hinv2
       go_wp2
       go_roundw
       case rel => exact ⟨t + 1, b, b + 2 * S, d4, HK.out.2.2, rfl, hlt, rfl, by go_num, hctx4, hout.trans ho4, hinv3⟩
       case measure => have := HK.out.2.1; simp [intOf]; omega
      ·have hlti : ¬ (b : Int) ≤ (m : Int) := by omega
       have hfin : Hid (∀ d4, SameI d3 d4 a m → SrtI K d4 a m → SameI d d4 0 m ∧ (∀ u, BlkS K d4 (2 * S) m u) ∧ ∀ u, CutO d4 m (2 * S * u)) := fun d4 hs hd => by
        refine ⟨hinv.out.1.trans (hs.wide (Nat.zero_le _) (Nat.le_refl _)), fun u => ?_, fun u => (hinv.out.2.2.2.1 u).same hs (Nat.le_refl _) (by have := k5 u; omega)⟩
        unfold BlkS
        rcases Nat.lt_trichotomy u t with e3 | e3 | e3
        ·exact srt_off hs (hinv.out.2.1 u e3) (.inl (by have := k2 u e3; omega))
        ·subst e3
         rw [← hat, ← hab, Nat.min_eq_right (by omega)]
         exact hd
        ·exact fun i j g1 g2 g3 => by have := k4 u e3; omega
       have hS3 : Hid (1 ≤ S * 2 ∧ S * 2 ≤ 1000) := by unfold Hid; omega
       rw [Nat.min_eq_right (show m ≤ e + S by omega)] at z1
       by_cases hem : e < m
       ·have hemi : (e : Int) < (m : Int) := by omega
        rw [Nat.min_eq_left (by omega)] at z0
        have hmg : MergeOk g m cg q A n c fr K wr d3 a e m := symMerge_c (by omega) (m - a) wr d3 a e m (Nat.le_refl _) (by omega) hem (Nat.le_refl _) hctx (z2.agr HKK.out (Nat.le_refl _)) z0 z1
        unfold MergeOk at hmg
        have HMG := Lib.hid hmg
        clear k0 k1 k2 k3 k4 k5 z0 z1 z2 hmg hat hab he hinv hctx
        go_wp2_with fail
        refine HMG.out.mono ?_
        rintro e' w4 ⟨d4, rfl, hctx4, hs4, ht4, ho4⟩
        have hinv3 := Lib.hid (hfin.out d4 hs4 ht4)
        clear hs4 ht4 hfin
        go_wp2
        go_roundw
        case rel => exact ⟨S * 2, d4, hS3.out.1, hS3.out.2, by go_num, hctx4, hout.trans ho4, by rw [Nat.mul_comm S 2]; exact hinv3⟩
        case measure => simp [intOf]; omega
       ·have hemi : ¬ (e : Int) < (m : Int) := by omega
        rw [Nat.min_eq_right (by omega)] at z0
        have hinv3 := Lib.hid (hfin.out d3 (SameI.refl _ _ _) z0)
        clear k0 k1 k2 k3 k4 k5 z0 z1 z2 hat hab he hinv hfin
        go_wp2
        go_roundw
        case rel => exact ⟨S * 2, d3, hS3.out.1, hS3.out.2, by go_num, hctx, hout, by rw [Nat.mul_comm S 2]; exact hinv3⟩
        case measure => simp [intOf]; omega
    ·have hlSi : ¬ (S : Int) < (m : Int) := by omega
     have hfin : Hid (SameI d d1 0 m ∧ SrtI K d1 0 m) := by
      refine ⟨hinv.out.1, ?_⟩
      have := hinv.out.2.1 0
      unfold BlkS at this
      rw [Nat.mul_zero, Nat.zero_add, Nat.min_eq_right (by omega)] at this
      exact this
     clear hinv
     go_wp2
     go_end0
     exact ⟨rfl, d1, hctx, hfin.out.1, hfin.out.2, hout⟩
set_option maxHeartbeats 1000000 in
theorem SortStable_c {w : World} {g m cg q n c : Nat} {A : Option Addr} {fr : List Int} {d : Nat → Nat} {K : Nat → Int} (hK : ∀ x y, y < x → (gi fr x < gi fr y ↔ K x < K y)) (hinc : ∀ x y, x < y → y < m → d x < d y) (h : CtxS w g m q A n c fr d) (hm : m ≤ 400) :
  Calls Tryz.prog 119 #[.slice (some ⟨g, 0, none⟩) m cg, .func (.func 120) #[] #[.pointer (some ⟨q, 0, none⟩)]] w fun e w' => ∃ d', e = .returned (.tuple #[]) ∧ CtxS w' g m q A n c fr d' ∧ SameI d d' 0 m ∧ SrtI K d' 0 m ∧ Out g (g + 1) w w' := by
 have HS := Lib.hid (stable_c (cg := cg) hK hinc h hm)
 clear hK hinc
 go_enter Tryz.func119, Tryz.ntmps119
 go_wp2_with fail
 refine HS.out.mono ?_
 rintro e w2 ⟨d2, rfl, h1, h2, h3, h4⟩
 go_wp2
 go_end0
 exact ⟨d2, rfl, h1, h2, h3, h4⟩
end Go.Proofs.YtldgdofefcehnaaGreatDoor
