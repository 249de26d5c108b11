/-
  THE CONTRACTS OF block's told, nextRun. No conditions.
  THE CONTRACTS OF block's runsOf. No conditions.
-/
import Derived.Test.YtldgdofefcehnaaGreatDoorMtr
import Derived.Lib.MinMax
namespace Go.Proofs.YtldgdofefcehnaaGreatDoor
section
open Go.RowKit
set_option maxRecDepth 1000000
set_option linter.unusedVariables false
def toldN (l : List Int) (least : Nat) : Nat → Nat
 | 0 => 0
 | k + 1 => if least < k + 1 ∧ gi l k = 0 then toldN l least k else k + 1
theorem toldN_le (l : List Int) (least k : Nat) : toldN l least k ≤ k := by
 induction k with
 | zero => exact Nat.le_refl _
 | succ k ih => unfold toldN; split <;> omega
theorem toldN_least (l : List Int) (least k : Nat) (h : least ≤ k) : least ≤ toldN l least k := by
 induction k with
 | zero => exact h
 | succ k ih =>
  unfold toldN
  split
  ·exact ih (by omega)
  ·exact h
theorem toldN_zero (l : List Int) (least k : Nat) : ∀ i, toldN l least k ≤ i → i < k → gi l i = 0 := by
 induction k with
 | zero => intro i _ h; omega
 | succ k ih =>
  intro i h1 h2
  unfold toldN at h1
  split at h1
  ·rename_i h3
   by_cases h4 : i = k
   ·rw [h4]; exact h3.2
   ·exact ih i h1 (by omega)
  ·omega
set_option maxHeartbeats 1000000 in
theorem told_c (g n c : Nat) (l : List Int) (w : World) (h : IRow w (some ⟨g, 0, none⟩) n .i64 l) (hc : n ≤ c) (hm : c ≤ maxLen) (least : Nat) :
  Calls Tryz.prog 59 #[.slice (some ⟨g, 0, none⟩) n c, .int .i64 least] w fun e w' => e = .returned (.slice (some ⟨g, 0, none⟩) (toldN l least n) c) ∧ w = w' := by
 have H := Lib.hid h
 have hmm := h.max'
 have hcm : c ≤ 9223372036854775807 := by unfold maxLen at hm; exact hm
 clear h hm
 go_enter Tryz.func59, Tryz.ntmps59
 go_wp2
 go_loopw [5] (fun cv wr => ∃ k : Nat, k ≤ n ∧ cv = .int .i64 k ∧ Hid (toldN l least k = toldN l least n) ∧ w = wr) (fun cv _ => (intOf cv).toNat)
 case atStart => exact ⟨n, Nat.le_refl _, rfl, rfl, rfl⟩
 case round =>
  obtain ⟨k, hk, rfl, hE, rfl⟩ := hrel
  by_cases hlt : least < k
  ·obtain ⟨j, rfl⟩ : ∃ j, k = j + 1 := ⟨k - 1, by omega⟩
   obtain ⟨b, o, e, hl, hcell⟩ := H.out.at_ (i := j) (by omega)
   injection e with e
   injection e with e1 e2 _
   subst e1 e2
   rw [Nat.zero_add] at hcell
   have h1 : (least : Int) < ((j + 1 : Nat) : Int) := by omega
   have h2 : ((j + 1 : Nat) : Int) - 1 = (j : Int) := by omega
   have hE2 : Hid (least < j + 1 ∧ gi l j = 0 → toldN l least j = toldN l least n) := fun hh => by
    have h3 := hE.out
    conv at h3 => lhs; unfold toldN
    rw [if_pos hh] at h3
    exact h3
   have hE3 : Hid (gi l j ≠ 0 → j + 1 = toldN l least n) := fun hh => by
    have h3 := hE.out
    conv at h3 => lhs; unfold toldN
    rw [if_neg (fun e => hh e.2)] at h3
    exact h3
   clear hE
   generalize gi l j = x at *
   by_cases hx : x = 0
   ·have hxb : (x == 0) = true := by rw [hx]; rfl
    have hE4 := Lib.hid (hE2.out ⟨hlt, hx⟩)
    clear hE2 hE3 hx
    go_wp2
    go_roundw
    case rel => exact ⟨j, by omega, by first | rfl | go_num, hE4, by first | exact trivial | rfl⟩
    case measure => simp [intOf] <;> omega
   ·have hxb : (x == 0) = false := by rw [beq_eq_false_iff_ne]; exact hx
    have hE4 := Lib.hid (hE3.out hx)
    have hjc : j + 1 ≤ c := by omega
    have hjci : ((j + 1 : Nat) : Int) ≤ (c : Int) := by omega
    clear hE2 hE3 hx
    go_wp2
    go_ret
    rw [← hE4.out]
    exact ⟨rfl, rfl⟩
  ·have h1 : ¬ (least : Int) < (k : Int) := by omega
   have hE4 : Hid (k = toldN l least n) := by
    have h3 := hE.out
    unfold Hid
    rw [← h3]
    cases k with
    | zero => rfl
    | succ k => unfold toldN; rw [if_neg (fun e => hlt e.1)]
   have hkc : (k : Int) ≤ (c : Int) := by omega
   clear hE
   go_wp2
   go_ret
   rw [← hE4.out]
   exact ⟨rfl, rfl⟩
def CntR (l : List Int) (n a k : Nat) : Prop := 1 ≤ k ∧ a + k ≤ n ∧ (∀ i, i < k → gi l (a + i) = gi l a) ∧ (a + k = n ∨ gi l (a + k) ≠ gi l a)
theorem CntR.unique {l : List Int} {n a k k' : Nat} (h : CntR l n a k) (h' : CntR l n a k') : k = k' := by
 obtain ⟨h1, h2, h3, h4⟩ := h
 obtain ⟨g1, g2, g3, g4⟩ := h'
 rcases Nat.lt_trichotomy k k' with c | c | c
 ·rcases h4 with h4 | h4
  ·omega
  ·exact absurd (g3 k c) h4
 ·exact c
 ·rcases g4 with g4 | g4
  ·omega
  ·exact absurd (h3 k' c) g4
def pickR (l : List Int) (a k : Nat) : Nat × Nat × Nat × Nat :=
 if gi l a = 0 ∧ 11 ≤ k then (18, 7, min k 138 - 11, min k 138) else if gi l a = 0 ∧ 3 ≤ k then (17, 3, k - 3, k) else if 0 < a ∧ gi l (a - 1) = gi l a ∧ 3 ≤ k then (16, 2, min k 6 - 3, min k 6) else ((gi l a).toNat, 0, 0, 1)
theorem pickR_18 {l : List Int} {a k m v : Nat} (h0 : gi l a = 0) (h11 : 11 ≤ k) (hm : m = min k 138) (hv : v = m - 11) : (18, 7, v, m) = pickR l a k := by
 unfold pickR; rw [if_pos ⟨h0, h11⟩, hv, hm]
theorem pickR_17 {l : List Int} {a k v : Nat} (h0 : gi l a = 0) (h11 : ¬ 11 ≤ k) (h3 : 3 ≤ k) (hv : v = k - 3) : (17, 3, v, k) = pickR l a k := by
 unfold pickR; rw [if_neg (fun e => h11 e.2), if_pos ⟨h0, h3⟩, hv]
theorem pickR_16 {l : List Int} {a k m v : Nat} (h0 : gi l a ≠ 0) (ha : 0 < a) (he : gi l (a - 1) = gi l a) (h3 : 3 ≤ k) (hm : m = min k 6) (hv : v = m - 3) : (16, 2, v, m) = pickR l a k := by
 unfold pickR; rw [if_neg (fun e => h0 e.1), if_neg (fun e => h0 e.1), if_pos ⟨ha, he, h3⟩, hv, hm]
theorem pickR_no {l : List Int} {a k : Nat} (h1 : ¬ (gi l a = 0 ∧ 3 ≤ k)) (h2 : ¬ (0 < a ∧ gi l (a - 1) = gi l a ∧ 3 ≤ k)) : pickR l a k = ((gi l a).toNat, 0, 0, 1) := by
 unfold pickR; rw [if_neg (fun e => h1 ⟨e.1, by omega⟩), if_neg h1, if_neg h2]
structure RunOk (l : List Int) (n a s z v c : Nat) : Prop where
 fits : a + c ≤ n
 pos : 1 ≤ c
 alt : (s < 16 ∧ z = 0 ∧ v = 0 ∧ c = 1 ∧ gi l a = s) ∨ (s = 16 ∧ z = 2 ∧ v < 4 ∧ c = v + 3 ∧ 0 < a ∧ ∀ i, i < c → gi l (a + i) = gi l (a - 1)) ∨ (s = 17 ∧ z = 3 ∧ v < 8 ∧ c = v + 3 ∧ ∀ i, i < c → gi l (a + i) = 0) ∨ (s = 18 ∧ z = 7 ∧ v < 128 ∧ c = v + 11 ∧ ∀ i, i < c → gi l (a + i) = 0)
 det : ∃ k, CntR l n a k ∧ (s, z, v, c) = pickR l a k
theorem RunOk.unique {l : List Int} {n a s z v c s' z' v' c' : Nat} (h : RunOk l n a s z v c) (h' : RunOk l n a s' z' v' c') : s = s' ∧ z = z' ∧ v = v' ∧ c = c' := by
 obtain ⟨k, h1, h2⟩ := h.det
 obtain ⟨k', g1, g2⟩ := h'.det
 obtain rfl := h1.unique g1
 have e := h2.trans g2.symm
 simp only [Prod.mk.injEq] at e
 exact e
set_option maxHeartbeats 8000000 in
theorem nextRun_c (A : Option Addr) (n c : Nat) (l : List Int) (w : World) (h : IRow w A n .i64 l) (hn : n ≤ 100000) (hr : ∀ i, i < n → 0 ≤ gi l i ∧ gi l i ≤ 15) (a : Nat) (ha : a < n) :
  Calls Tryz.prog 153 #[.slice A n c, .int .i64 a] w fun e w' => ∃ s z v k : Nat, e = .returned (.tuple #[.agg #[.int .i64 s, .int .i64 z, .int .i64 v], .int .i64 k]) ∧ RunOk l n a s z v k ∧ Below w.heap.size w w' := by
 have hai : (a : Int) < (n : Int) := by omega
 obtain ⟨b, o, rfl, hl, hcell⟩ := h.at_ ha
 have HX := Lib.hid (Blk.new w 159 #[.int .i64 0, .int .i64 0, .int .i64 0])
 have HW : Hid (IRow (w.alloc (.cells #[.int .i64 0, .int .i64 0, .int .i64 0] 159)) (some ⟨b, o, none⟩) n .i64 l) := h.below ((Below.refl _ _).alloc (Nat.le_refl _) _)
 have HB : Hid (Below w.heap.size w (w.alloc (.cells #[.int .i64 0, .int .i64 0, .int .i64 0] 159))) := (Below.refl _ _).alloc (Nat.le_refl _) _
 obtain ⟨s, hxs⟩ : ∃ s : Nat, gi l a = (s : Int) := ⟨(gi l a).toNat, by have := hr a ha; omega⟩
 have hs15 : s ≤ 15 := by have := hr a ha; omega
 have HXX := Lib.hid hxs
 have HD : Hid (∀ k, CntR l n a k → pickR l a k = ((gi l a).toNat, 0, 0, 1) → RunOk l n a s 0 0 1) := fun k hk e => ⟨by omega, by omega, .inl ⟨by omega, rfl, rfl, rfl, hxs⟩, k, hk, by rw [e, hxs, Int.toNat_natCast]⟩
 rw [hxs] at hcell
 clear h hr hxs
 go_enter Tryz.func153, Tryz.ntmps153
 go_wp2
 generalize (w.alloc (.cells #[.int .i64 0, .int .i64 0, .int .i64 0] 159)) = W at *
 have HG := Lib.hid (Nat.le_refl w.heap.size)
 obtain ⟨g0, hg0⟩ : ∃ g, g = w.heap.size := ⟨_, rfl⟩
 have HG : Hid (w.heap.size ≤ g0) := by unfold Hid; omega
 rw [← hg0] at HX ⊢
 clear hg0 hcell hl
 have hprev : 0 < a → ∃ y, Hid (y = gi l (a - 1)) ∧ W.cell? ⟨b, o + (a - 1), none⟩ = some (.int .i64 y) ∧ (a : Int) - 1 = ((a - 1 : Nat) : Int) := fun ha0 => by
  obtain ⟨b', o', e, _, hc2⟩ := HW.out.at_ (i := a - 1) (by omega)
  injection e with e
  injection e with e1 e2 _
  subst e1 e2
  exact ⟨_, rfl, hc2, by omega⟩
 obtain ⟨⟨c0, c1, c2⟩, f0, f1, f2⟩ := HX.out.trip
 go_loopw [7] (fun cv wr => ∃ k : Nat, 1 ≤ k ∧ a + k ≤ n ∧ cv = .int .i64 k ∧ Hid (∀ i, i < k → gi l (a + i) = (s : Int)) ∧ W = wr) (fun cv _ => n - (intOf cv).toNat)
 case atStart => exact ⟨1, by omega, by omega, rfl, (fun i hi => (show i = 0 by omega) ▸ HXX.out), rfl⟩
 case round =>
  obtain ⟨k, hk1, hk2, rfl, hall, rfl⟩ := hrel
  by_cases hlt : a + k < n
  ·have hlti : (a : Int) + (k : Int) < (n : Int) := by omega
   obtain ⟨b', o', e, _, hc2⟩ := HW.out.at_ (i := a + k) hlt
   injection e with e
   injection e with e1 e2 _
   subst e1 e2
   have hti : ((a : Int) + (k : Int)).toNat = a + k := by omega
   obtain ⟨u, hu⟩ : ∃ u, u = gi l (a + k) := ⟨_, rfl⟩
   rw [← hu] at hc2
   by_cases hus : u = (s : Int)
   ·have hub : (u == (s : Int)) = true := by rw [beq_iff_eq]; exact hus
    have hall2 : Hid (∀ i, i < k + 1 → gi l (a + i) = (s : Int)) := fun i hi => by
     rcases Nat.lt_or_ge i k with h3 | h3
     ·exact hall.out i h3
     ·obtain rfl : i = k := by omega
      rw [← hu, hus]
    clear hu hus hprev
    go_wp2
    go_roundw
    case rel => exact ⟨k + 1, by omega, by omega, by go_num, hall2, by first | exact trivial | rfl⟩
    case measure => simp [intOf]; omega
   ·have hub : (u == (s : Int)) = false := by rw [beq_eq_false_iff_ne]; exact hus
    have HCN : Hid (CntR l n a k) := ⟨hk1, hk2, fun i hi => by rw [hall.out i hi, HXX.out], .inr (by rw [← hu, HXX.out]; exact hus)⟩
    clear hu hus
    clear HW
    by_cases hx0 : s = 0
    ·have hxb : ((s : Int) == 0) = true := by rw [hx0]; rfl
     by_cases h11 : 11 ≤ k
     ·have h11i : (11 : Int) ≤ (k : Int) := by omega
      obtain ⟨m, hm⟩ : ∃ m : Nat, min (k : Int) 138 = (m : Int) := ⟨min k 138, by omega⟩
      have hm1 : m ≤ k ∧ 11 ≤ m ∧ m ≤ 138 := by omega
      obtain ⟨v, hv⟩ : ∃ v, v = m - 11 := ⟨_, rfl⟩
      have hvi : (m : Int) - 11 = (v : Int) := by omega
      have HOK : Hid (RunOk l n a 18 7 v m) := ⟨by omega, by omega, .inr (.inr (.inr ⟨rfl, rfl, by omega, by omega, fun i hi => by rw [hall.out i (by omega), hx0]; rfl⟩)), k, HCN.out, pickR_18 (by rw [HXX.out, hx0]; rfl) h11 (by omega) hv⟩
      clear hx0 hv hall HXX HD hprev
      go_wp2
      have k3 := ((HX.out.set_ 0 (.int .i64 18)).set_ 1 (.int .i64 7)).set_ 2 (.int .i64 v)
      obtain ⟨⟨d0, d1, d2⟩, -⟩ := k3.trip
      have HB4 := Lib.hid (((HB.out.setCell (p := ⟨g0, 0, none⟩) HG.out (.int .i64 18)).setCell (p := ⟨g0, 1, none⟩) HG.out (.int .i64 7)).setCell (p := ⟨g0, 2, none⟩) HG.out (.int .i64 v))
      refine bodyPost_ret (v := .tuple #[.agg #[.int .i64 18, .int .i64 7, .int .i64 v], .int .i64 m]) (by simp [results, Tryz.results153, go_sem, d0, d1, d2]) rfl ?_
      exact ⟨18, 7, v, m, rfl, HOK.out, HB4.out⟩
     ·have h11i : ¬ (11 : Int) ≤ (k : Int) := by omega
      by_cases h3 : 3 ≤ k
      ·have h3i : (3 : Int) ≤ (k : Int) := by omega
       obtain ⟨v, hv⟩ : ∃ v, v = k - 3 := ⟨_, rfl⟩
       have hvi : (k : Int) - 3 = (v : Int) := by omega
       have HOK : Hid (RunOk l n a 17 3 v k) := ⟨by omega, by omega, .inr (.inr (.inl ⟨rfl, rfl, by omega, by omega, fun i hi => by rw [hall.out i (by omega), hx0]; rfl⟩)), k, HCN.out, pickR_17 (by rw [HXX.out, hx0]; rfl) h11 h3 hv⟩
       clear hx0 hv hall HXX HD hprev
       go_wp2
       have k3 := ((HX.out.set_ 0 (.int .i64 17)).set_ 1 (.int .i64 3)).set_ 2 (.int .i64 v)
       obtain ⟨⟨d0, d1, d2⟩, -⟩ := k3.trip
       have HB4 := Lib.hid (((HB.out.setCell (p := ⟨g0, 0, none⟩) HG.out (.int .i64 17)).setCell (p := ⟨g0, 1, none⟩) HG.out (.int .i64 3)).setCell (p := ⟨g0, 2, none⟩) HG.out (.int .i64 v))
       refine bodyPost_ret (v := .tuple #[.agg #[.int .i64 17, .int .i64 3, .int .i64 v], .int .i64 k]) (by simp [results, Tryz.results153, go_sem, d0, d1, d2]) rfl ?_
       exact ⟨17, 3, v, k, rfl, HOK.out, HB4.out⟩
      ·have h3i : ¬ (3 : Int) ≤ (k : Int) := by omega
       have HDD := Lib.hid (HD.out k HCN.out (pickR_no (fun e => by first | omega | (have := HXX.out; omega)) (fun e => by first | omega | exact hys (by rw [hy.out, e.2.1, HXX.out]))))
       clear hx0 hall HXX
       by_cases ha0 : 0 < a
       ·have ha0i : (0 : Int) < (a : Int) := by omega
        obtain ⟨y, hy, hyc, hai1⟩ := hprev ha0
        clear hprev hy
        by_cases hys : y = (s : Int)
        ·have hyb : (y == (s : Int)) = true := by rw [beq_iff_eq]; exact hys
         clear hys
         go_wp2
         have k3 := ((HX.out.set_ 0 (.int .i64 s)).set_ 1 (.int .i64 0)).set_ 2 (.int .i64 0)
         obtain ⟨⟨d0, d1, d2⟩, -⟩ := k3.trip
         have HB4 := Lib.hid (((HB.out.setCell (p := ⟨g0, 0, none⟩) HG.out (.int .i64 s)).setCell (p := ⟨g0, 1, none⟩) HG.out (.int .i64 0)).setCell (p := ⟨g0, 2, none⟩) HG.out (.int .i64 0))
         refine bodyPost_ret (v := .tuple #[.agg #[.int .i64 s, .int .i64 0, .int .i64 0], .int .i64 1]) (by simp [results, Tryz.results153, go_sem, d0, d1, d2]) rfl ?_
         exact ⟨s, 0, 0, 1, rfl, HDD.out, HB4.out⟩
        ·have hyb : (y == (s : Int)) = false := by rw [beq_eq_false_iff_ne]; exact hys
         clear hys
         go_wp2
         have k3 := ((HX.out.set_ 0 (.int .i64 s)).set_ 1 (.int .i64 0)).set_ 2 (.int .i64 0)
         obtain ⟨⟨d0, d1, d2⟩, -⟩ := k3.trip
         have HB4 := Lib.hid (((HB.out.setCell (p := ⟨g0, 0, none⟩) HG.out (.int .i64 s)).setCell (p := ⟨g0, 1, none⟩) HG.out (.int .i64 0)).setCell (p := ⟨g0, 2, none⟩) HG.out (.int .i64 0))
         refine bodyPost_ret (v := .tuple #[.agg #[.int .i64 s, .int .i64 0, .int .i64 0], .int .i64 1]) (by simp [results, Tryz.results153, go_sem, d0, d1, d2]) rfl ?_
         exact ⟨s, 0, 0, 1, rfl, HDD.out, HB4.out⟩
       ·have ha0i : ¬ (0 : Int) < (a : Int) := by omega
        clear hprev
        go_wp2
        have k3 := ((HX.out.set_ 0 (.int .i64 s)).set_ 1 (.int .i64 0)).set_ 2 (.int .i64 0)
        obtain ⟨⟨d0, d1, d2⟩, -⟩ := k3.trip
        have HB4 := Lib.hid (((HB.out.setCell (p := ⟨g0, 0, none⟩) HG.out (.int .i64 s)).setCell (p := ⟨g0, 1, none⟩) HG.out (.int .i64 0)).setCell (p := ⟨g0, 2, none⟩) HG.out (.int .i64 0))
        refine bodyPost_ret (v := .tuple #[.agg #[.int .i64 s, .int .i64 0, .int .i64 0], .int .i64 1]) (by simp [results, Tryz.results153, go_sem, d0, d1, d2]) rfl ?_
        exact ⟨s, 0, 0, 1, rfl, HDD.out, HB4.out⟩
    ·have hxb : ((s : Int) == 0) = false := by rw [beq_eq_false_iff_ne]; omega
     by_cases ha0 : 0 < a
     ·have ha0i : (0 : Int) < (a : Int) := by omega
      obtain ⟨y, hy, hyc, hai1⟩ := hprev ha0
      clear hprev
      by_cases hys : y = (s : Int)
      ·have hyb : (y == (s : Int)) = true := by rw [beq_iff_eq]; exact hys
       by_cases h3 : 3 ≤ k
       ·have h3i : (3 : Int) ≤ (k : Int) := by omega
        obtain ⟨m, hm⟩ : ∃ m : Nat, min (k : Int) 6 = (m : Int) := ⟨min k 6, by omega⟩
        have hm1 : m ≤ k ∧ 3 ≤ m ∧ m ≤ 6 := by omega
        obtain ⟨v, hv⟩ : ∃ v, v = m - 3 := ⟨_, rfl⟩
        have hvi : (m : Int) - 3 = (v : Int) := by omega
        have HOK : Hid (RunOk l n a 16 2 v m) := ⟨by omega, by omega, .inr (.inl ⟨rfl, rfl, by omega, by omega, ha0, fun i hi => by rw [hall.out i (by omega), ← hy.out, hys]⟩), k, HCN.out, pickR_16 (by rw [HXX.out]; omega) ha0 (by rw [← hy.out, hys, HXX.out]) h3 (by omega) hv⟩
        clear hx0 hv hall HXX HD hys hy
        go_wp2
        have k3 := ((HX.out.set_ 0 (.int .i64 16)).set_ 1 (.int .i64 2)).set_ 2 (.int .i64 v)
        obtain ⟨⟨d0, d1, d2⟩, -⟩ := k3.trip
        have HB4 := Lib.hid (((HB.out.setCell (p := ⟨g0, 0, none⟩) HG.out (.int .i64 16)).setCell (p := ⟨g0, 1, none⟩) HG.out (.int .i64 2)).setCell (p := ⟨g0, 2, none⟩) HG.out (.int .i64 v))
        refine bodyPost_ret (v := .tuple #[.agg #[.int .i64 16, .int .i64 2, .int .i64 v], .int .i64 m]) (by simp [results, Tryz.results153, go_sem, d0, d1, d2]) rfl ?_
        exact ⟨16, 2, v, m, rfl, HOK.out, HB4.out⟩
       ·have h3i : ¬ (3 : Int) ≤ (k : Int) := by omega
        have HDD := Lib.hid (HD.out k HCN.out (pickR_no (fun e => by first | omega | (have := HXX.out; omega)) (fun e => by first | omega | exact hys (by rw [hy.out, e.2.1, HXX.out]))))
        clear hx0 hall HXX hys hy
        go_wp2
        have k3 := ((HX.out.set_ 0 (.int .i64 s)).set_ 1 (.int .i64 0)).set_ 2 (.int .i64 0)
        obtain ⟨⟨d0, d1, d2⟩, -⟩ := k3.trip
        have HB4 := Lib.hid (((HB.out.setCell (p := ⟨g0, 0, none⟩) HG.out (.int .i64 s)).setCell (p := ⟨g0, 1, none⟩) HG.out (.int .i64 0)).setCell (p := ⟨g0, 2, none⟩) HG.out (.int .i64 0))
        refine bodyPost_ret (v := .tuple #[.agg #[.int .i64 s, .int .i64 0, .int .i64 0], .int .i64 1]) (by simp [results, Tryz.results153, go_sem, d0, d1, d2]) rfl ?_
        exact ⟨s, 0, 0, 1, rfl, HDD.out, HB4.out⟩
      ·have hyb : (y == (s : Int)) = false := by rw [beq_eq_false_iff_ne]; exact hys
       have HDD := Lib.hid (HD.out k HCN.out (pickR_no (fun e => by first | omega | (have := HXX.out; omega)) (fun e => by first | omega | exact hys (by rw [hy.out, e.2.1, HXX.out]))))
       clear hx0 hall HXX hys hy
       go_wp2
       have k3 := ((HX.out.set_ 0 (.int .i64 s)).set_ 1 (.int .i64 0)).set_ 2 (.int .i64 0)
       obtain ⟨⟨d0, d1, d2⟩, -⟩ := k3.trip
       have HB4 := Lib.hid (((HB.out.setCell (p := ⟨g0, 0, none⟩) HG.out (.int .i64 s)).setCell (p := ⟨g0, 1, none⟩) HG.out (.int .i64 0)).setCell (p := ⟨g0, 2, none⟩) HG.out (.int .i64 0))
       refine bodyPost_ret (v := .tuple #[.agg #[.int .i64 s, .int .i64 0, .int .i64 0], .int .i64 1]) (by simp [results, Tryz.results153, go_sem, d0, d1, d2]) rfl ?_
       exact ⟨s, 0, 0, 1, rfl, HDD.out, HB4.out⟩
     ·have ha0i : ¬ (0 : Int) < (a : Int) := by omega
      have HDD := Lib.hid (HD.out k HCN.out (pickR_no (fun e => by first | omega | (have := HXX.out; omega)) (fun e => by first | omega | exact hys (by rw [hy.out, e.2.1, HXX.out]))))
      clear hprev hx0 hall HXX
      go_wp2
      have k3 := ((HX.out.set_ 0 (.int .i64 s)).set_ 1 (.int .i64 0)).set_ 2 (.int .i64 0)
      obtain ⟨⟨d0, d1, d2⟩, -⟩ := k3.trip
      have HB4 := Lib.hid (((HB.out.setCell (p := ⟨g0, 0, none⟩) HG.out (.int .i64 s)).setCell (p := ⟨g0, 1, none⟩) HG.out (.int .i64 0)).setCell (p := ⟨g0, 2, none⟩) HG.out (.int .i64 0))
      refine bodyPost_ret (v := .tuple #[.agg #[.int .i64 s, .int .i64 0, .int .i64 0], .int .i64 1]) (by simp [results, Tryz.results153, go_sem, d0, d1, d2]) rfl ?_
      exact ⟨s, 0, 0, 1, rfl, HDD.out, HB4.out⟩
  ·have hlti : ¬ (a : Int) + (k : Int) < (n : Int) := by omega
   have HCN : Hid (CntR l n a k) := ⟨hk1, hk2, fun i hi => by rw [hall.out i hi, HXX.out], .inl (by omega)⟩
   clear HW
   by_cases hx0 : s = 0
   ·have hxb : ((s : Int) == 0) = true := by rw [hx0]; rfl
    by_cases h11 : 11 ≤ k
    ·have h11i : (11 : Int) ≤ (k : Int) := by omega
     obtain ⟨m, hm⟩ : ∃ m : Nat, min (k : Int) 138 = (m : Int) := ⟨min k 138, by omega⟩
     have hm1 : m ≤ k ∧ 11 ≤ m ∧ m ≤ 138 := by omega
     obtain ⟨v, hv⟩ : ∃ v, v = m - 11 := ⟨_, rfl⟩
     have hvi : (m : Int) - 11 = (v : Int) := by omega
     have HOK : Hid (RunOk l n a 18 7 v m) := ⟨by omega, by omega, .inr (.inr (.inr ⟨rfl, rfl, by omega, by omega, fun i hi => by rw [hall.out i (by omega), hx0]; rfl⟩)), k, HCN.out, pickR_18 (by rw [HXX.out, hx0]; rfl) h11 (by omega) hv⟩
     clear hx0 hv hall HXX HD hprev
     go_wp2
     have k3 := ((HX.out.set_ 0 (.int .i64 18)).set_ 1 (.int .i64 7)).set_ 2 (.int .i64 v)
     obtain ⟨⟨d0, d1, d2⟩, -⟩ := k3.trip
     have HB4 := Lib.hid (((HB.out.setCell (p := ⟨g0, 0, none⟩) HG.out (.int .i64 18)).setCell (p := ⟨g0, 1, none⟩) HG.out (.int .i64 7)).setCell (p := ⟨g0, 2, none⟩) HG.out (.int .i64 v))
     refine bodyPost_ret (v := .tuple #[.agg #[.int .i64 18, .int .i64 7, .int .i64 v], .int .i64 m]) (by simp [results, Tryz.results153, go_sem, d0, d1, d2]) rfl ?_
     exact ⟨18, 7, v, m, rfl, HOK.out, HB4.out⟩
    ·have h11i : ¬ (11 : Int) ≤ (k : Int) := by omega
     by_cases h3 : 3 ≤ k
     ·have h3i : (3 : Int) ≤ (k : Int) := by omega
      obtain ⟨v, hv⟩ : ∃ v, v = k - 3 := ⟨_, rfl⟩
      have hvi : (k : Int) - 3 = (v : Int) := by omega
      have HOK : Hid (RunOk l n a 17 3 v k) := ⟨by omega, by omega, .inr (.inr (.inl ⟨rfl, rfl, by omega, by omega, fun i hi => by rw [hall.out i (by omega), hx0]; rfl⟩)), k, HCN.out, pickR_17 (by rw [HXX.out, hx0]; rfl) h11 h3 hv⟩
      clear hx0 hv hall HXX HD hprev
      go_wp2
      have k3 := ((HX.out.set_ 0 (.int .i64 17)).set_ 1 (.int .i64 3)).set_ 2 (.int .i64 v)
      obtain ⟨⟨d0, d1, d2⟩, -⟩ := k3.trip
      have HB4 := Lib.hid (((HB.out.setCell (p := ⟨g0, 0, none⟩) HG.out (.int .i64 17)).setCell (p := ⟨g0, 1, none⟩) HG.out (.int .i64 3)).setCell (p := ⟨g0, 2, none⟩) HG.out (.int .i64 v))
      refine bodyPost_ret (v := .tuple #[.agg #[.int .i64 17, .int .i64 3, .int .i64 v], .int .i64 k]) (by simp [results, Tryz.results153, go_sem, d0, d1, d2]) rfl ?_
      exact ⟨17, 3, v, k, rfl, HOK.out, HB4.out⟩
     ·have h3i : ¬ (3 : Int) ≤ (k : Int) := by omega
      have HDD := Lib.hid (HD.out k HCN.out (pickR_no (fun e => by first | omega | (have := HXX.out; omega)) (fun e => by first | omega | exact hys (by rw [hy.out, e.2.1, HXX.out]))))
      clear hx0 hall HXX
      by_cases ha0 : 0 < a
      ·have ha0i : (0 : Int) < (a : Int) := by omega
       obtain ⟨y, hy, hyc, hai1⟩ := hprev ha0
       clear hprev hy
       by_cases hys : y = (s : Int)
       ·have hyb : (y == (s : Int)) = true := by rw [beq_iff_eq]; exact hys
        clear hys
        go_wp2
        have k3 := ((HX.out.set_ 0 (.int .i64 s)).set_ 1 (.int .i64 0)).set_ 2 (.int .i64 0)
        obtain ⟨⟨d0, d1, d2⟩, -⟩ := k3.trip
        have HB4 := Lib.hid (((HB.out.setCell (p := ⟨g0, 0, none⟩) HG.out (.int .i64 s)).setCell (p := ⟨g0, 1, none⟩) HG.out (.int .i64 0)).setCell (p := ⟨g0, 2, none⟩) HG.out (.int .i64 0))
        refine bodyPost_ret (v := .tuple #[.agg #[.int .i64 s, .int .i64 0, .int .i64 0], .int .i64 1]) (by simp [results, Tryz.results153, go_sem, d0, d1, d2]) rfl ?_
        exact ⟨s, 0, 0, 1, rfl, HDD.out, HB4.out⟩
       ·have hyb : (y == (s : Int)) = false := by rw [beq_eq_false_iff_ne]; exact hys
        clear hys
        go_wp2
        have k3 := ((HX.out.set_ 0 (.int .i64 s)).set_ 1 (.int .i64 0)).set_ 2 (.int .i64 0)
        obtain ⟨⟨d0, d1, d2⟩, -⟩ := k3.trip
        have HB4 := Lib.hid (((HB.out.setCell (p := ⟨g0, 0, none⟩) HG.out (.int .i64 s)).setCell (p := ⟨g0, 1, none⟩) HG.out (.int .i64 0)).setCell (p := ⟨g0, 2, none⟩) HG.out (.int .i64 0))
        refine bodyPost_ret (v := .tuple #[.agg #[.int .i64 s, .int .i64 0, .int .i64 0], .int .i64 1]) (by simp [results, Tryz.results153, go_sem, d0, d1, d2]) rfl ?_
        exact ⟨s, 0, 0, 1, rfl, HDD.out, HB4.out⟩
      ·have ha0i : ¬ (0 : Int) < (a : Int) := by omega
       clear hprev
       go_wp2
       have k3 := ((HX.out.set_ 0 (.int .i64 s)).set_ 1 (.int .i64 0)).set_ 2 (.int .i64 0)
       obtain ⟨⟨d0, d1, d2⟩, -⟩ := k3.trip
       have HB4 := Lib.hid (((HB.out.setCell (p := ⟨g0, 0, none⟩) HG.out (.int .i64 s)).setCell (p := ⟨g0, 1, none⟩) HG.out (.int .i64 0)).setCell (p := ⟨g0, 2, none⟩) HG.out (.int .i64 0))
       refine bodyPost_ret (v := .tuple #[.agg #[.int .i64 s, .int .i64 0, .int .i64 0], .int .i64 1]) (by simp [results, Tryz.results153, go_sem, d0, d1, d2]) rfl ?_
       exact ⟨s, 0, 0, 1, rfl, HDD.out, HB4.out⟩
   ·have hxb : ((s : Int) == 0) = false := by rw [beq_eq_false_iff_ne]; omega
    by_cases ha0 : 0 < a
    ·have ha0i : (0 : Int) < (a : Int) := by omega
     obtain ⟨y, hy, hyc, hai1⟩ := hprev ha0
     clear hprev
     by_cases hys : y = (s : Int)
     ·have hyb : (y == (s : Int)) = true := by rw [beq_iff_eq]; exact hys
      by_cases h3 : 3 ≤ k
      ·have h3i : (3 : Int) ≤ (k : Int) := by omega
       obtain ⟨m, hm⟩ : ∃ m : Nat, min (k : Int) 6 = (m : Int) := ⟨min k 6, by omega⟩
       have hm1 : m ≤ k ∧ 3 ≤ m ∧ m ≤ 6 := by omega
       obtain ⟨v, hv⟩ : ∃ v, v = m - 3 := ⟨_, rfl⟩
       have hvi : (m : Int) - 3 = (v : Int) := by omega
       have HOK : Hid (RunOk l n a 16 2 v m) := ⟨by omega, by omega, .inr (.inl ⟨rfl, rfl, by omega, by omega, ha0, fun i hi => by rw [hall.out i (by omega), ← hy.out, hys]⟩), k, HCN.out, pickR_16 (by rw [HXX.out]; omega) ha0 (by rw [← hy.out, hys, HXX.out]) h3 (by omega) hv⟩
       clear hx0 hv hall HXX HD hys hy
       go_wp2
       have k3 := ((HX.out.set_ 0 (.int .i64 16)).set_ 1 (.int .i64 2)).set_ 2 (.int .i64 v)
       obtain ⟨⟨d0, d1, d2⟩, -⟩ := k3.trip
       have HB4 := Lib.hid (((HB.out.setCell (p := ⟨g0, 0, none⟩) HG.out (.int .i64 16)).setCell (p := ⟨g0, 1, none⟩) HG.out (.int .i64 2)).setCell (p := ⟨g0, 2, none⟩) HG.out (.int .i64 v))
       refine bodyPost_ret (v := .tuple #[.agg #[.int .i64 16, .int .i64 2, .int .i64 v], .int .i64 m]) (by simp [results, Tryz.results153, go_sem, d0, d1, d2]) rfl ?_
       exact ⟨16, 2, v, m, rfl, HOK.out, HB4.out⟩
      ·have h3i : ¬ (3 : Int) ≤ (k : Int) := by omega
       have HDD := Lib.hid (HD.out k HCN.out (pickR_no (fun e => by first | omega | (have := HXX.out; omega)) (fun e => by first | omega | exact hys (by rw [hy.out, e.2.1, HXX.out]))))
       clear hx0 hall HXX hys hy
       go_wp2
       have k3 := ((HX.out.set_ 0 (.int .i64 s)).set_ 1 (.int .i64 0)).set_ 2 (.int .i64 0)
       obtain ⟨⟨d0, d1, d2⟩, -⟩ := k3.trip
       have HB4 := Lib.hid (((HB.out.setCell (p := ⟨g0, 0, none⟩) HG.out (.int .i64 s)).setCell (p := ⟨g0, 1, none⟩) HG.out (.int .i64 0)).setCell (p := ⟨g0, 2, none⟩) HG.out (.int .i64 0))
       refine bodyPost_ret (v := .tuple #[.agg #[.int .i64 s, .int .i64 0, .int .i64 0], .int .i64 1]) (by simp [results, Tryz.results153, go_sem, d0, d1, d2]) rfl ?_
       exact ⟨s, 0, 0, 1, rfl, HDD.out, HB4.out⟩
     ·have hyb : (y == (s : Int)) = false := by rw [beq_eq_false_iff_ne]; exact hys
      have HDD := Lib.hid (HD.out k HCN.out (pickR_no (fun e => by first | omega | (have := HXX.out; omega)) (fun e => by first | omega | exact hys (by rw [hy.out, e.2.1, HXX.out]))))
      clear hx0 hall HXX hys hy
      go_wp2
      have k3 := ((HX.out.set_ 0 (.int .i64 s)).set_ 1 (.int .i64 0)).set_ 2 (.int .i64 0)
      obtain ⟨⟨d0, d1, d2⟩, -⟩ := k3.trip
      have HB4 := Lib.hid (((HB.out.setCell (p := ⟨g0, 0, none⟩) HG.out (.int .i64 s)).setCell (p := ⟨g0, 1, none⟩) HG.out (.int .i64 0)).setCell (p := ⟨g0, 2, none⟩) HG.out (.int .i64 0))
      refine bodyPost_ret (v := .tuple #[.agg #[.int .i64 s, .int .i64 0, .int .i64 0], .int .i64 1]) (by simp [results, Tryz.results153, go_sem, d0, d1, d2]) rfl ?_
      exact ⟨s, 0, 0, 1, rfl, HDD.out, HB4.out⟩
    ·have ha0i : ¬ (0 : Int) < (a : Int) := by omega
     have HDD := Lib.hid (HD.out k HCN.out (pickR_no (fun e => by first | omega | (have := HXX.out; omega)) (fun e => by first | omega | exact hys (by rw [hy.out, e.2.1, HXX.out]))))
     clear hprev hx0 hall HXX
     go_wp2
     have k3 := ((HX.out.set_ 0 (.int .i64 s)).set_ 1 (.int .i64 0)).set_ 2 (.int .i64 0)
     obtain ⟨⟨d0, d1, d2⟩, -⟩ := k3.trip
     have HB4 := Lib.hid (((HB.out.setCell (p := ⟨g0, 0, none⟩) HG.out (.int .i64 s)).setCell (p := ⟨g0, 1, none⟩) HG.out (.int .i64 0)).setCell (p := ⟨g0, 2, none⟩) HG.out (.int .i64 0))
     refine bodyPost_ret (v := .tuple #[.agg #[.int .i64 s, .int .i64 0, .int .i64 0], .int .i64 1]) (by simp [results, Tryz.results153, go_sem, d0, d1, d2]) rfl ?_
     exact ⟨s, 0, 0, 1, rfl, HDD.out, HB4.out⟩
end
section
open Go.RowKit
set_option maxRecDepth 1000000
set_option linter.unusedVariables false
structure Rn where
 s : Nat
 z : Nat
 v : Nat
 c : Nat
inductive RTo (l : List Int) (n : Nat) : List Rn → Nat → Prop
 | nil : RTo l n [] 0
 | snoc {R : List Rn} {a : Nat} (r : Rn) : RTo l n R a → RunOk l n a r.s r.z r.v r.c → RTo l n (R ++ [r]) (a + r.c)
def rnC (R : List Rn) : List Value := R.flatMap fun r => [.int .i64 r.s, .int .i64 r.z, .int .i64 r.v]
theorem rnC_snoc (R : List Rn) (r : Rn) : rnC (R ++ [r]) = rnC R ++ [.int .i64 r.s, .int .i64 r.z, .int .i64 r.v] := by simp [rnC]
theorem info_run : (Tryz.prog.info? 159).map (fun i => (i.zero, i.size, i.bytes)) = some (some (.agg #[.int .i64 0, .int .i64 0, .int .i64 0]), 3, 24) := by kernel_rfl
theorem own_bel {w w' : World} {base n size : Nat} {e : TypeId} {v : Value} {xs : List Value} (h : w.ownsRow base e size v n xs) (hb : Below w.heap.size w w') : w'.ownsRow base e size v n xs := by
 have hg : w.grownBy w' (some w.heap.size) := ⟨hb.os, hb.tape, hb.output, hb.size, fun k hk _ => hb.block k hk⟩
 exact h.kept hg (.inr fun e => by have := (h.lt _ e).2; omega)
theorem own_shapeR {w : World} {base n size : Nat} {e : TypeId} {v : Value} {xs : List Value} (h : w.ownsRow base e size v n xs) : ∃ A c, v = .slice A n c := by
 rcases h.2 with ⟨rfl, rfl⟩ | ⟨g, cap, _, rfl, _⟩
 ·exact ⟨none, 0, rfl⟩
 ·exact ⟨_, cap, rfl⟩
theorem cellsR (w : World) (a b c : Value) (t : TypeId) : ∀ j u, [a, b, c][j]? = some u → (w.alloc (.cells #[a, b, c] t)).cell? ((⟨w.heap.size, 0, none⟩ : Addr).add j) = some u := by
 have h := World.news_of_block (cs := #[a, b, c]) (t := t) (fr := (0, 0)) (heap_alloc_new w (.cells #[a, b, c] t))
 exact h
theorem cellsR2 (w : World) (o : Obj) (a b c : Value) (t : TypeId) : ∀ j u, [a, b, c][j]? = some u → ((w.alloc o).alloc (.cells #[a, b, c] t)).cell? ((⟨w.heap.size + 1, 0, none⟩ : Addr).add j) = some u := by
 have h := cellsR (w.alloc o) a b c t
 rw [World.size_alloc] at h
 exact h
theorem oneR (s z v : Nat) : ∀ u ∈ [Value.int .i64 s, .int .i64 z, .int .i64 v], u.oneCell' = true := by
 intro u hu
 simp at hu
 rcases hu with rfl | rfl | rfl <;> rfl
set_option maxHeartbeats 4000000 in
theorem runsOf_c (A : Option Addr) (n c : Nat) (l : List Int) (w : World) (h : IRow w A n .i64 l) (hn : n ≤ 1000) (hr : ∀ i, i < n → 0 ≤ gi l i ∧ gi l i ≤ 15) :
  Calls Tryz.prog 111 #[.slice A n c] w fun e w' => ∃ A' k c' R, e = .returned (.slice A' k c') ∧ R.length = k ∧ k ≤ n ∧ RTo l n R n ∧ w'.ownsRow w.heap.size 159 3 (.slice A' k c') k (rnC R) ∧ Below w.heap.size w w' := by
 obtain ⟨i0, hi, hz0, hz1, hz2⟩ := info_parts info_run
 have H := Lib.hid h
 have HR := Lib.hid hr
 clear h hr
 go_enter Tryz.func111, Tryz.ntmps111
 go_wp2
 go_loopw [3, 4] (fun av cv wr => ∃ (a k c' : Nat) (A' : Option Addr) (R : List Rn), a ≤ n ∧ cv = .int .i64 a ∧ av = .slice A' k c' ∧ Hid (R.length = k) ∧ Hid (RTo l n R a) ∧ k ≤ a ∧ Hid (wr.ownsRow w.heap.size 159 3 (.slice A' k c') k (rnC R)) ∧ Hid (Below w.heap.size w wr)) (fun _ cv _ => n - (intOf cv).toNat)
 case atStart => exact ⟨0, 0, 0, none, [], by omega, rfl, rfl, rfl, RTo.nil, by omega, World.ownsRow_nil _ _ _ _, Below.refl _ _⟩
 case round =>
  obtain ⟨a, k, c', A', R, han, rfl, rfl, hRk, hRT, hka, hown, hb⟩ := hrel
  by_cases hlt : a < n
  ·have hlti : (a : Int) < (n : Int) := by omega
   go_wp2_with fail
   refine (nextRun_c A n c l wr (H.out.below hb.out) (by omega) HR.out a hlt).mono ?_
   rintro e w2 ⟨s, z, v, q, rfl, hok, hb2⟩
   have HB2 := Lib.hid (hb.out.trans (hb2.mono hb.out.size))
   have HO2 := Lib.hid (own_bel hown.out hb2)
   have hfit := hok.fits
   have hpos := hok.pos
   have HRT2 : Hid (RTo l n (R ++ [⟨s, z, v, q⟩]) (a + q)) := RTo.snoc ⟨s, z, v, q⟩ hRT.out hok
   clear hok hb2 hown hRT
   go_wp2_with (at_builtin; refine wpList_append_own _ rfl (.tmp 17) (.tmp 19) 156 rfl w.heap.size 159 i0 (.agg #[.int .i64 0, .int .i64 0, .int .i64 0]) 3 24 Tryz.underlying156 hi hz0 hz1 hz2 rfl (by decide) (.slice A' k c') k (rnC R) rfl ((HO2.out.alloc _).alloc _) ⟨w2.heap.size + 1, 0, none⟩ 1 1 [.int .i64 s, .int .i64 z, .int .i64 v] rfl rfl (cellsR2 w2 _ _ _ _ _) (oneR s z v) (by unfold maxLen; omega) (by omega) (by have := HB2.out.size; simp; omega) ?_; intro v5 w5 hown5 hgrow5 hnil5; clear hnil5; obtain ⟨A5, c5, rfl⟩ := own_shapeR hown5)
   have HO5 : Hid (w5.ownsRow w.heap.size 159 3 (.slice A5 (k + 1) c5) (k + 1) (rnC (R ++ [⟨s, z, v, q⟩]))) := by
    rw [rnC_snoc]
    exact hown5
   have HB5 : Hid (Below w.heap.size w w5) := ((HB2.out.alloc HB2.out.size _).alloc (by have := HB2.out.size; simp; omega) _).grown hgrow5 (by have := HB2.out.size; simp; omega) (fun x hx => (HO2.out.lt x hx).1)
   have HLEN : Hid ((R ++ [(⟨s, z, v, q⟩ : Rn)]).length = k + 1) := by unfold Hid; rw [List.length_append, hRk.out]; rfl
   clear hown5 hgrow5
   go_roundw
   case rel => exact ⟨a + q, k + 1, c5, A5, R ++ [⟨s, z, v, q⟩], by omega, by go_num, rfl, HLEN, HRT2, by omega, HO5, HB5⟩
   case measure => simp [intOf]; omega
  ·obtain rfl : a = n := by omega
   have hlti : ¬ (a : Int) < (a : Int) := by omega
   go_wp2
   go_ret
   exact ⟨A', k, c', rfl, R, hRk.out, by omega, hRT.out, hown.out, hb.out⟩
end
end Go.Proofs.YtldgdofefcehnaaGreatDoor
