/-
  THE CONTRACT OF block's bestLengths. No conditions.
-/
import Derived.Test.YtldgdofefcehnaaGreatDoorLenG
namespace Go.Proofs.YtldgdofefcehnaaGreatDoor
open Go.RowKit
set_option maxRecDepth 1000000
set_option linter.unusedVariables false
theorem comeN_sumB (fr : List Int) (n : Nat) : (comeN fr n).length = sumF (fun v => if 0 < gi fr v then 1 else 0) n := by
 induction n with
 | zero => rfl
 | succ n ih => rw [come_succ, sumF_succ, ih]
theorem Come.lenB {fr : List Int} {n m : Nat} {d : Nat → Nat} (h : Come fr n m d) : m = (comeN fr n).length := by
 rw [comeN_sumB, ← sum_come h (fun _ => 1), sumF_const, Nat.mul_one]
theorem arr_giB (A : Nat → Nat) {n v : Nat} (h : v < n) : gi (nI (arr A n)) v = (A v : Nat) := by rw [nI_at _ (by rw [arr_length]; exact h), arr_at A h]
theorem MadeX.krB {fr : List Int} {n L m : Nat} {A : Nat → Nat} (h : MadeX fr n L m A) (hL : L ≤ 15) : ∀ k, k ≤ n → Go.Proofs.YtldgdofefcehnaaGreatDoor.kr (nI (arr A n)) k = krF fr A k := by
 intro k
 induction k with
 | zero => intro _; rfl
 | succ k ih =>
  intro hk
  have e := arr_giB A (show k < n by omega)
  show Go.Proofs.YtldgdofefcehnaaGreatDoor.kr (nI (arr A n)) k + (if 0 < gi (nI (arr A n)) k then 2 ^ (15 - lnN (nI (arr A n)) k) else 0) = krF fr A k + (if 0 < gi fr k then 2 ^ (15 - A k) else 0)
  rw [ih (by omega)]
  congr 1
  unfold lnN
  rw [e]
  by_cases h0 : 0 < gi fr k
  ·have := h.pos k (by omega) h0
   rw [if_pos h0, if_pos (by omega), Int.toNat_natCast]
  ·have := h.zero k (by omega) h0
   rw [if_neg h0, if_neg (by omega)]
theorem MakeG_c (FA : Option Addr) (n cf : Nat) (fr : List Int) (Li : Int) (w : World) (hf : IRow w FA n .i64 fr) (hok : chkE fr n Li = 0) :
  Calls Tryz.prog 30 #[.slice FA n cf, .int .i64 Li] w fun e w' => ∃ g A, e = .returned (.tuple #[.slice (some ⟨g, 0, none⟩) n n, .int .i64 0]) ∧ IRow w' (some ⟨g, 0, none⟩) n .i64 (nI (arr A n)) ∧ w.heap.size ≤ g ∧ MadeX fr n Li.toNat (comeN fr n).length A ∧ Below w.heap.size w w' := by
 obtain ⟨hL, hn, hfb, hmany⟩ := chk_no hok
 refine (Make_ok FA n cf fr Li w hf hok).mono ?_
 rintro e w' ⟨g, rfl, m, d, A, hown, hmade, hb⟩
 have hx := hmade.ext (by omega) (by omega) (fun i hi => (FreqB_all hfb i hi).1)
 refine ⟨g, A, rfl, IRow.ofN hown (fun x hx' => ?_) (by omega), (hown.lt g rfl).1, by rw [← hmade.come.lenB]; exact hx, hb⟩
 obtain ⟨v, _, rfl⟩ := List.mem_map.1 hx'
 have := hx.most v
 omega
theorem best_c (FA : Option Addr) (n cf : Nat) (fr : List Int) (Li : Int) (w : World) (hf : IRow w FA n .i64 fr) (hok : chkE fr n Li = 0) :
  Calls Tryz.prog 60 #[.slice FA n cf, .int .i64 Li] w fun e w' => ∃ g A, e = .returned (.slice (some ⟨g, 0, none⟩) n n) ∧ IRow w' (some ⟨g, 0, none⟩) n .i64 (nI (arr A n)) ∧ w.heap.size ≤ g ∧ MadeX fr n Li.toNat (comeN fr n).length A ∧ Below w.heap.size w w' := by
 have HM := Lib.hid (MakeG_c FA n cf fr Li w hf hok)
 clear hf hok
 go_enter Tryz.func60, Tryz.ntmps60
 go_wp2_with fail
 refine HM.out.mono ?_
 rintro e w1 ⟨g, A, rfl, h1, h2, h3, h4⟩
 have H1 := Lib.hid h1
 have H2 := Lib.hid h2
 have H3 := Lib.hid h3
 have H4 := Lib.hid h4
 clear h1 h2 h3 h4 HM
 go_wp2
 go_ret
 exact ⟨g, A, rfl, H1.out, H2.out, H3.out, H4.out⟩
theorem arr_ln (A : Nat → Nat) {n v : Nat} (h : v < n) : lnN (nI (arr A n)) v = A v := by
 unfold lnN
 rw [arr_giB A h, Int.toNat_natCast]
theorem made_none {fr : List Int} {n L m : Nat} {A : Nat → Nat} (h : MadeX fr n L m A) : ∀ k, k ≤ n → (comeN fr k).length = 0 → totL (nI (arr A n)) k = 0 ∧ krF fr A k = 0 := by
 intro k
 induction k with
 | zero => intro _ _; exact ⟨rfl, rfl⟩
 | succ k ih =>
  intro hk hz
  rw [come_succ] at hz
  have h0 : ¬ 0 < gi fr k := fun e => by rw [if_pos e] at hz; omega
  rw [if_neg h0] at hz
  obtain ⟨h1, h2⟩ := ih (by omega) (by omega)
  refine ⟨?_, ?_⟩
  ·show totL (nI (arr A n)) k + lnN (nI (arr A n)) k = 0
   rw [h1, arr_ln A (by omega), h.zero k (by omega) h0]
  ·show krF fr A k + (if 0 < gi fr k then 2 ^ (15 - A k) else 0) = 0
   rw [h2, if_neg h0]
theorem made_one {fr : List Int} {n L m : Nat} {A : Nat → Nat} (h : MadeX fr n L m A) : ∀ k, k ≤ n → (comeN fr k).length = 1 → ∃ v, v < n ∧ 0 < gi fr v ∧ totL (nI (arr A n)) k = A v ∧ krF fr A k = 2 ^ (15 - A v) := by
 intro k
 induction k with
 | zero => intro _ h1; exact absurd h1 (by simp [comeN])
 | succ k ih =>
  intro hk h1
  rw [come_succ] at h1
  by_cases h0 : 0 < gi fr k
  ·rw [if_pos h0] at h1
   obtain ⟨h2, h3⟩ := made_none h k (by omega) (by omega)
   refine ⟨k, by omega, h0, ?_, ?_⟩
   ·show totL (nI (arr A n)) k + lnN (nI (arr A n)) k = A k
    rw [h2, arr_ln A (by omega), Nat.zero_add]
   ·show krF fr A k + (if 0 < gi fr k then 2 ^ (15 - A k) else 0) = _
    rw [h3, if_pos h0, Nat.zero_add]
  ·rw [if_neg h0] at h1
   obtain ⟨v, h2, h3, h4, h5⟩ := ih (by omega) (by omega)
   refine ⟨v, h2, h3, ?_, ?_⟩
   ·show totL (nI (arr A n)) k + lnN (nI (arr A n)) k = A v
    rw [h4, arr_ln A (by omega), h.zero k (by omega) h0, Nat.add_zero]
   ·show krF fr A k + (if 0 < gi fr k then 2 ^ (15 - A k) else 0) = _
    rw [h5, if_neg h0, Nat.add_zero]
theorem MadeX.err {fr : List Int} {n L : Nat} {A : Nat → Nat} (h : MadeX fr n L (comeN fr n).length A) (hL : L ≤ 15) (hn : n ≤ 288) : errC (nI (arr A n)) n = 0 := by
 have hr : RightB (nI (arr A n)) n = true := RightB_mono fun i hi => by
  rw [arr_giB A hi]
  have := h.most i
  omega
 have hk := h.krB hL n (Nat.le_refl _)
 have hf := h.full
 unfold errC
 rw [if_neg (by rw [hr]; simp; omega), hk]
 have hle : krF fr A n ≤ 32768 := by rw [hf]; split <;> (try split) <;> omega
 rw [if_neg (by omega), if_neg ?_]
 rintro ⟨h1, h2⟩
 rcases Nat.lt_or_ge (comeN fr n).length 2 with h3 | h3
 ·rcases (show (comeN fr n).length = 0 ∨ (comeN fr n).length = 1 by omega) with h4 | h4
  ·have := (made_none h n (Nat.le_refl _) h4).1
   omega
  ·obtain ⟨v, q1, q2, q3, q4⟩ := made_one h n (Nat.le_refl _) h4
   rw [h4, if_neg (by omega), if_pos rfl] at hf
   have q5 := h.pos v q1 q2
   rw [q3] at h2
   rw [q4] at hf
   have : 2 ^ (15 - A v) ≤ 2 ^ 13 := Nat.pow_le_pow_right (by omega) (by omega)
   omega
 ·rw [if_neg (by omega), if_neg (by omega)] at hf
  omega
end Go.Proofs.YtldgdofefcehnaaGreatDoor
