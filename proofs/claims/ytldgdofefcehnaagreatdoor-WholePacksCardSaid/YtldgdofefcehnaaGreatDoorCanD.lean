/-
  THE CONTRACTS OF the document's own Right, Sum and Codes. No conditions.
-/
import Derived.Test.YtldgdofefcehnaaGreatDoorCan
namespace Go.Proofs.YtldgdofefcehnaaGreatDoor
open Go.RowKit
set_option maxRecDepth 100000
set_option linter.unusedVariables false
set_option maxHeartbeats 1000000 in
theorem RefRight_c (A : Option Addr) (n c : Nat) (l : List Int) (w : World) (h : IRow w A n .i64 l) :
  Calls Tryz.prog 135 #[.slice A n c] w fun e w' => e = .returned (.bool (RightB l n && decide (n ≤ 288))) ∧ w = w' := by
 have hm := h.max'
 go_enter Tryz.func135, Tryz.ntmps135
 go_wp2
 go_loop [3] (fun i => ∃ k : Nat, k ≤ n ∧ i = .int .i64 k ∧ Hid (RightB l k = true)) (fun i => n - (intOf i).toNat)
 case atStart => exact ⟨0, by omega, rfl, rfl⟩
 case round =>
  obtain ⟨k, hk, rfl, hs⟩ := hrel
  by_cases hlt : k < n
  ·have hkn : (k : Int) < n := by omega
   obtain ⟨b1, o1, rfl, _, q1⟩ := h.at_ hlt
   by_cases hz1 : gi l k < 0
   ·have hr : Hid ((RightB l n && decide (n ≤ 288)) = false) := by unfold Hid; rw [RightB_not hlt (by omega)]; rfl
    generalize gi l k = a at *
    go_wp2
    go_ret
    exact ⟨ret_bool hr.out.symm, rfl⟩
   ·by_cases hz2 : 15 < gi l k
    ·have hr : Hid ((RightB l n && decide (n ≤ 288)) = false) := by unfold Hid; rw [RightB_not hlt (by omega)]; rfl
     generalize gi l k = a at *
     go_wp2
     go_ret
     exact ⟨ret_bool hr.out.symm, rfl⟩
    ·have hs2 : Hid (RightB l (k + 1) = true) := by unfold Hid RightB; rw [hs.out, decide_eq_true (by omega)]; rfl
     generalize gi l k = a at *
     go_wp2
     go_round
     case rel => exact ⟨k + 1, by omega, by go_num, hs2⟩
     case measure => simp [intOf]; omega
  ·obtain rfl : k = n := by omega
   have hd : Hid (decide ((k : Int) ≤ 288) = (RightB l k && decide (k ≤ 288))) := by
    unfold Hid
    rw [hs.out, Bool.true_and]
    exact decide_eq_decide.2 (by omega)
   go_wp2
   go_ret
   exact ⟨ret_bool hd.out, rfl⟩
theorem shr15 (a pw : Nat) (ha : a ≤ 15) (h : pw = 2 ^ (15 - a)) : (32768 : Int) / 2 ^ a = (pw : Int) := by
 have e : (32768 : Nat) = pw * 2 ^ a := by
  rw [h, ← Nat.pow_add, show 15 - a + a = 15 by omega]
 rw [show (32768 : Int) = ((pw * 2 ^ a : Nat) : Int) by rw [← e]; rfl, Int.natCast_mul, Int.natCast_pow]
 exact Int.mul_ediv_cancel _ (by have : (0 : Int) < ((2 : Nat) : Int) ^ a := Int.pow_pos (by decide); omega)
set_option maxHeartbeats 1000000 in
theorem RefSum_c (A : Option Addr) (n c : Nat) (l : List Int) (w : World) (h : IRow w A n .i64 l) (hr : ∀ i, i < n → 0 ≤ gi l i ∧ gi l i ≤ 15) (hn : n ≤ 300) :
  Calls Tryz.prog 136 #[.slice A n c] w fun e w' => e = .returned (.int .i64 (kr l n)) ∧ w = w' := by
 have HRI := Lib.hid hr
 have hkb := kr_bound l hr
 have HKB := Lib.hid hkb
 clear hr hkb
 go_enter Tryz.func136, Tryz.ntmps136
 go_wp2
 go_loop [3, 4] (fun s i => ∃ k : Nat, k ≤ n ∧ i = .int .i64 k ∧ s = .int .i64 (kr l k)) (fun _ i => n - (intOf i).toNat)
 case atStart => exact ⟨0, by omega, rfl, rfl⟩
 case round =>
  obtain ⟨k, hk, rfl, rfl⟩ := hrel
  by_cases hlt : k < n
  ·have hkn : (k : Int) < n := by omega
   obtain ⟨b1, o1, rfl, _, q1⟩ := h.at_ hlt
   have hg := HRI.out k hlt
   obtain ⟨a, ha⟩ : ∃ a : Nat, gi l k = a := ⟨(gi l k).toNat, by omega⟩
   have hkr := HKB.out k (by omega)
   rw [ha] at q1
   by_cases ha0 : 0 < a
   ·have ha15 : a ≤ 15 := by omega
    have hai : (0 : Int) < (a : Int) := by omega
    have hs : Hid (kr l (k + 1) = kr l k + 2 ^ (15 - a)) := by
     unfold Hid
     rw [kr, if_pos (by omega), show lnN l k = a by unfold lnN; omega]
    have hp := pow15 a ha15
    obtain ⟨pw, hpw⟩ : ∃ pw, pw = 2 ^ (15 - a) := ⟨_, rfl⟩
    rw [← hpw] at hp hs
    have hsh := shr15 a pw ha15 hpw
    clear hpw
    generalize kr l k = x at *
    go_wp2
    go_round
    case rel => exact ⟨k + 1, by omega, by go_num, by rw [hs.out]; go_num⟩
    case measure => simp [intOf]; omega
   ·obtain rfl : a = 0 := by omega
    have hs : Hid (kr l (k + 1) = kr l k) := by
     unfold Hid
     rw [kr, if_neg (by omega)]; rfl
    go_wp2
    go_round
    case rel => exact ⟨k + 1, by omega, by go_num, by rw [hs.out]⟩
    case measure => simp [intOf]; omega
  ·obtain rfl : k = n := by omega
   go_wp2
   go_ret
   exact ⟨rfl, rfl⟩
theorem used_facts (l : List Int) {n : Nat} (hr : ∀ i, i < n → 0 ≤ gi l i ∧ gi l i ≤ 15) : ∀ k, k ≤ n → usedL l k ≤ totL l k ∧ usedL l k ≤ k ∧ (usedL l k = 0 → totL l k = 0 ∧ kr l k = 0) ∧ (usedL l k = 1 → kr l k = 2 ^ (15 - totL l k) ∧ totL l k ≤ 15) := by
 intro k
 induction k with
 | zero => intro _; exact ⟨Nat.le_refl _, Nat.le_refl _, fun _ => ⟨rfl, rfl⟩, fun h => by simp [usedL] at h⟩
 | succ k ih =>
  intro hk
  obtain ⟨h1, h0, h2, h3⟩ := ih (by omega)
  have h4 := hr k (by omega)
  unfold usedL totL kr
  by_cases hp : 0 < gi l k
  ·rw [if_pos hp, if_pos hp]
   have h5 : 1 ≤ lnN l k ∧ lnN l k ≤ 15 := by unfold lnN; omega
   refine ⟨by omega, by omega, fun h => by omega, fun h => ?_⟩
   obtain ⟨h6, h7⟩ := h2 (by omega)
   rw [h6, h7, Nat.zero_add, Nat.zero_add]
   exact ⟨rfl, h5.2⟩
  ·rw [if_neg hp, if_neg hp]
   have h5 : lnN l k = 0 := by unfold lnN; omega
   rw [h5]
   exact ⟨h1, by omega, h2, h3⟩
theorem pow_small_all : ∀ t, t ≤ 15 → 1 ≤ t → (2 ^ (15 - t) = 16384 ↔ t = 1) := by decide
theorem pow_small {t : Nat} (h1 : t ≤ 15) (h2 : 1 ≤ t) : 2 ^ (15 - t) = 16384 ↔ t = 1 := pow_small_all t h1 h2
theorem open_iff (l : List Int) {n : Nat} (hr : ∀ i, i < n → 0 ≤ gi l i ∧ gi l i ≤ 15) : (0 < usedL l n ∧ ¬ (usedL l n = 1 ∧ kr l n = 16384)) ↔ 2 ≤ totL l n := by
 obtain ⟨h1, _, h2, h3⟩ := used_facts l hr n (Nat.le_refl _)
 constructor
 ·rintro ⟨h4, h5⟩
  by_cases h6 : usedL l n = 1
  ·obtain ⟨h7, h8⟩ := h3 h6
   have h9 := pow_small h8 (by omega)
   have : ¬ totL l n = 1 := fun e => h5 ⟨h6, by rw [h7]; exact h9.2 e⟩
   omega
  ·omega
 ·intro h4
  refine ⟨?_, ?_⟩
  ·by_cases h5 : usedL l n = 0
   ·have := (h2 h5).1; omega
   ·omega
  ·rintro ⟨h5, h6⟩
   obtain ⟨h7, h8⟩ := h3 h5
   rw [h7] at h6
   have := (pow_small h8 (by omega)).1 h6
   omega
def cE (l : List Int) (m s : Nat) : Nat → Nat := fun i => if gi l i < (m : Int) ∨ (gi l i = (m : Int) ∧ i < s) then codeN l i else 0
theorem cE_step {l : List Int} {m s : Nat} (hs : gi l s = (m : Int)) (i : Nat) : cE l m (s + 1) i = if i = s then codeN l s else cE l m s i := by
 unfold cE
 by_cases e : i = s
 ·subst e
  rw [if_pos (by omega), if_pos rfl]
 ·rw [if_neg e]
  by_cases e2 : gi l i < (m : Int) ∨ (gi l i = (m : Int) ∧ i < s)
  ·rw [if_pos e2, if_pos (by omega)]
  ·rw [if_neg e2, if_neg (by omega)]
theorem cE_skip {l : List Int} {m s : Nat} (hs : gi l s ≠ (m : Int)) (i : Nat) : cE l m (s + 1) i = cE l m s i := by
 unfold cE
 by_cases e2 : gi l i < (m : Int) ∨ (gi l i = (m : Int) ∧ i < s)
 ·rw [if_pos e2, if_pos (by omega)]
 ·rw [if_neg e2, if_neg]
  rintro (e | ⟨e3, e4⟩)
  ·omega
  ·by_cases e5 : i = s
   ·subst e5; exact hs e3
   ·omega
theorem cE_next {l : List Int} {m n i : Nat} (hi : i < n) : cE l m n i = cE l (m + 1) 0 i := by
 unfold cE
 by_cases e : gi l i < (m : Int) ∨ (gi l i = (m : Int) ∧ i < n)
 ·rw [if_pos e, if_pos (by omega)]
 ·rw [if_neg e, if_neg (by omega)]
theorem used_le (l : List Int) (k : Nat) : usedL l k ≤ k := by
 induction k with
 | zero => exact Nat.le_refl _
 | succ k ih => unfold usedL; split <;> omega
set_option maxRecDepth 1000000 in
set_option maxHeartbeats 4000000 in
theorem RefCodes_c (A : Option Addr) (n c : Nat) (l : List Int) (w : World) (h : IRow w A n .i64 l) :
  Calls Tryz.prog 91 #[.slice A n c] w fun e w' => (errC l n ≠ 0 ∧ e = .returned (.tuple #[.slice none 0 0, .int .i64 (errC l n)]) ∧ w = w') ∨ (errC l n = 0 ∧ ∃ g, e = .returned (.tuple #[.slice (some ⟨g, 0, none⟩) n n, .int .i64 0]) ∧ w'.ownsRow w.heap.size 60 1 (.slice (some ⟨g, 0, none⟩) n n) n (us (codeN l) n) ∧ Below w.heap.size w w') := by
 have hm := h.max'
 have hright := RefRight_c A n c l w h
 by_cases hbad : 288 < n ∨ RightB l n = false
 ·have he : errC l n = 1 := if_pos hbad
  have hf : (RightB l n && decide (n ≤ 288)) = false := by
   rcases hbad with h1 | h1
   ·rw [decide_eq_false (by omega), Bool.and_false]
   ·rw [h1]; rfl
  rw [hf] at hright
  have HR := Lib.hid hright
  rw [he]
  clear hright hf he hbad
  go_enter Tryz.func91, Tryz.ntmps91
  go_wp2_with (go_at_call 135; refine HR.out.mono ?_; rintro e _ ⟨rfl, rfl⟩)
  go_ret2
  exact .inl ⟨by decide, rfl, rfl⟩
 ·have hn : n ≤ 288 := by omega
  have hrb : RightB l n = true := by
   cases hr : RightB l n with
   | true => rfl
   | false => exact absurd (.inr hr) hbad
  have hri := RightB_all hrb
  have HE : Hid (errC l n = if 32768 < kr l n then 30 else if kr l n < 32768 ∧ 2 ≤ totL l n then 31 else 0) := if_neg hbad
  have HRI := Lib.hid hri
  have HOP := Lib.hid (open_iff l hri)
  have hkb := kr_bound l hri n (Nat.le_refl _)
  rw [hrb, decide_eq_true hn] at hright
  have HR := Lib.hid hright
  have HS := Lib.hid (RefSum_c A n c l w h hri (by omega))
  have HLEN := Lib.hid h.len
  have HFS : Hid (∀ j, j ≤ 15 → fK l n j + cN l n j ≤ 4718592) := by
   unfold Hid
   rw [← h.len]
   exact fun j hj => fK_small (by unfold RightL; rw [h.len]; exact hri) (by rw [h.len]; exact hn) j hj
  obtain ⟨i0, hi, hz0, hz1, hz2⟩ := info_parts info_u32
  obtain ⟨x, hx⟩ : ∃ x, x = kr l n := ⟨_, rfl⟩
  rw [← hx] at HE HOP HS hkb
  obtain ⟨E, hE⟩ : ∃ E, E = errC l n := ⟨_, rfl⟩
  rw [← hE] at HE ⊢
  clear hright hri hrb hbad hx hE
  by_cases hk : 32768 < x
  ·have hki : (32768 : Int) < (x : Int) := by omega
   have HE30 : Hid (E = 30) := by unfold Hid; rw [HE.out, if_pos hk]
   clear hk
   go_enter Tryz.func91, Tryz.ntmps91
   go_wp2_with (first
    | (go_at_call 135; refine HR.out.mono ?_; rintro e _ ⟨rfl, rfl⟩)
    | (go_at_call 136; refine HS.out.mono ?_; rintro e _ ⟨rfl, rfl⟩))
   go_ret2
   exact .inl ⟨by rw [HE30.out]; decide, by rw [HE30.out]; rfl, rfl⟩
  ·have hki : ¬ (32768 : Int) < (x : Int) := by omega
   have HE2 : Hid (E = if x < 32768 ∧ 2 ≤ totL l n then 31 else 0) := by unfold Hid; rw [HE.out, if_neg hk]
   clear hk
   go_enter Tryz.func91, Tryz.ntmps91
   go_wp2_with (first
    | (go_at_call 135; refine HR.out.mono ?_; rintro e _ ⟨rfl, rfl⟩)
    | (go_at_call 136; refine HS.out.mono ?_; rintro e _ ⟨rfl, rfl⟩))
   go_loop [5, 6] (fun s i => ∃ k : Nat, k ≤ n ∧ i = .int .i64 k ∧ s = .int .i64 (usedL l k)) (fun _ i => n - (intOf i).toNat)
   case atStart => exact ⟨0, by omega, rfl, rfl⟩
   case round =>
    obtain ⟨k, hk, rfl, rfl⟩ := hrel
    by_cases hlt : k < n
    ·have hkn : (k : Int) < n := by omega
     obtain ⟨b1, o1, rfl, _, q1⟩ := h.at_ hlt
     have hul := used_le l k
     by_cases ha0 : 0 < gi l k
     ·have hs : Hid (usedL l (k + 1) = usedL l k + 1) := by unfold Hid; rw [usedL, if_pos ha0]
      generalize usedL l k = u at *
      generalize gi l k = a at *
      go_wp2
      go_round
      case rel => exact ⟨k + 1, by omega, by go_num, by rw [hs.out]; go_num⟩
      case measure => simp [intOf]; omega
     ·have hs : Hid (usedL l (k + 1) = usedL l k) := by unfold Hid; rw [usedL, if_neg ha0]; rfl
      generalize usedL l k = u at *
      generalize gi l k = a at *
      go_wp2
      go_round
      case rel => exact ⟨k + 1, by omega, by go_num, by rw [hs.out]⟩
      case measure => simp [intOf]; omega
    ·obtain rfl : k = n := by omega
     cases ‹w = w›
     have HU := Lib.hid (used_le l k)
     obtain ⟨u, hu⟩ : ∃ u, u = usedL l k := ⟨_, rfl⟩
     rw [← hu] at HOP HU ⊢
     clear hu
     by_cases hno : x < 32768 ∧ 2 ≤ totL l k
     ·have HE3 : Hid (E = 31) := by unfold Hid; rw [HE2.out, if_pos hno]
      obtain ⟨ho1, ho2⟩ := HOP.out.2 hno.2
      have hx1 : (x : Int) < 32768 := by omega
      have hu1 : (0 : Int) < (u : Int) := by omega
      by_cases e1 : u = 1
      ·have hb1 : ((u : Int) == 1) = true := by rw [beq_iff_eq]; omega
       have hb2 : ((x : Int) == 16384) = false := by rw [beq_eq_false_iff_ne]; omega
       clear hno ho1 ho2 e1
       go_wp2
       go_ret2
       exact .inl ⟨by rw [HE3.out]; decide, by rw [HE3.out]; rfl, rfl⟩
      ·have hb1 : ((u : Int) == 1) = false := by rw [beq_eq_false_iff_ne]; omega
       clear hno ho1 ho2 e1
       go_wp2
       go_ret2
       exact .inl ⟨by rw [HE3.out]; decide, by rw [HE3.out]; rfl, rfl⟩
     ·have HE0 : Hid (E = 0) := by unfold Hid; rw [HE2.out, if_neg hno]
      have hway : ¬ (x : Int) < 32768 ∨ ((x : Int) < 32768 ∧ ¬ (0 : Int) < (u : Int)) ∨ ((x : Int) < 32768 ∧ (0 : Int) < (u : Int) ∧ ((u : Int) == 1) = true ∧ ((x : Int) == 16384) = true) := by
       by_cases e1 : x < 32768
       ·have e2 := mt HOP.out.1 (fun e => hno ⟨e1, e⟩)
        by_cases e3 : 0 < u
        ·refine .inr (.inr ⟨by omega, by omega, ?_, ?_⟩) <;> rw [beq_iff_eq] <;> omega
        ·exact .inr (.inl ⟨by omega, by omega⟩)
       ·exact .inl (by omega)
      clear hno
      rcases hway with hx1 | ⟨hx1, hu1⟩ | ⟨hx1, hu1, hb1, hb2⟩
      all_goals
       go_wp2_with (at_make; refine wpList_make_full _ rfl _ _ 119 rfl w.heap.size 60 i0 (.int .u32 0) 1 Tryz.underlying119 hi hz0 hz1 _ _ _ _ k rfl rfl rfl rfl (by rw [hz2]; omega) (by unfold maxLen; omega) (Nat.le_refl _) ?_; intro w3 hown3 hgrow3)
       have hbel3 := (Below.refl w.heap.size w).grown hgrow3 (Nat.le_refl _) (fun k h => by cases h)
       have HOWN : Hid (w3.ownsRow w.heap.size 60 1 (.slice (some ⟨w.heap.size, 0, none⟩) k k) k (us (cE l 1 0) k)) := by
        unfold Hid
        have e1 : us (cE l 1 0) k = List.replicate k (.int .u32 0) := by
         rw [← us_zero]
         refine us_congr fun i hi => ?_
         unfold cE
         split
         ·have := HRI.out i hi
          unfold codeN
          rw [if_pos (by omega)]
         ·rfl
        have e2 : madeCells (Value.int .u32 0).cells (k * 1) = madeCells #[.int .u32 0] k := by rw [Nat.mul_one]; rfl
        rw [e2, toList_madeCells_one] at hown3
        rw [e1]
        exact hown3
       clear hown3 hgrow3
       go_wp2
       generalize hgg : w.heap.size = g at *
       go_loopw [8, 9] (fun cd i wr => ∃ m : Nat, 1 ≤ m ∧ m ≤ 16 ∧ i = .int .i64 m ∧ cd = .int .u32 ((fK l k (m - 1) + cN l k (m - 1) : Nat) : Int) ∧ wr.ownsRow g 60 1 (.slice (some ⟨g, 0, none⟩) k k) k (us (cE l m 0) k) ∧ Below g w wr) (fun _ i _ => 16 - (intOf i).toNat)
       case atStart => exact ⟨1, by omega, by omega, rfl, rfl, HOWN.out, hbel3⟩
       case round =>
        clear hbel3
        obtain ⟨m, hm1, hm16, rfl, rfl, hown, hbel⟩ := hrel
        by_cases hlt : m < 16
        ·have hmi : (m : Int) ≤ 15 := by omega
         obtain ⟨m', hm'⟩ : ∃ m', m = m' + 1 := ⟨m - 1, by omega⟩
         have hfs := HFS.out m' (by omega)
         have hfe : Hid (2 * (fK l k m' + cN l k m') = fK l k m) := by unfold Hid; rw [hm']; rfl
         have hfm := HFS.out m (by omega)
         rw [show m - 1 = m' by omega]
         obtain ⟨y, hy⟩ : ∃ y, y = fK l k m' + cN l k m' := ⟨_, rfl⟩
         rw [← hy] at hfs hfe ⊢
         have HM := Lib.hid hm'
         clear hy hm'
         go_wp2
         go_loopw [8, 10] (fun cd i wr => ∃ s : Nat, s ≤ k ∧ i = .int .i64 s ∧ cd = .int .u32 ((fK l k m + cL l m s : Nat) : Int) ∧ wr.ownsRow g 60 1 (.slice (some ⟨g, 0, none⟩) k k) k (us (cE l m s) k) ∧ Below g w wr) (fun _ i _ => k - (intOf i).toNat)
         case atStart => exact ⟨0, by omega, rfl, by rw [show fK l k m + cL l m 0 = fK l k m from rfl, ← hfe.out]; go_num, hown, hbel⟩
         case round =>
          clear hown hbel
          obtain ⟨s, hs, rfl, rfl, hown, hbel⟩ := hrel
          by_cases hls : s < k
          ·have hsk : (s : Int) < (k : Int) := by omega
           have h1 := h.below (by rw [hgg]; exact hbel)
           obtain ⟨b1, o1, rfl, _, q1⟩ := h1.at_ hls
           have hcl : cL l m s ≤ cN l k m := by unfold cN; rw [if_neg (by omega)]; exact cL_mono l m (by omega)
           by_cases hgs : gi l s = (m : Int)
           ·have hf2 := hown.frozenAt s
            have hc2 := hown.cellAt s (by omega)
            rw [us_at _ hls] at hc2
            have hv : Hid (codeN l s = fK l k m + cL l m s) := by
             unfold Hid codeN
             rw [if_neg (by omega), show lnN l s = m by unfold lnN; omega, HLEN.out]
            have hst := Lib.hid (hown.stored s (.int .u32 ((fK l k m + cL l m s : Nat) : Int))).1
            have HC := Lib.hid (fun i (_ : i < k) => cE_step hgs i)
            have HL : Hid (cL l m (s + 1) = cL l m s + 1) := by unfold Hid; rw [cL, if_pos hgs]
            have HBEL := Lib.hid (hbel.setCell (p := Addr.mk g s none) (Nat.le_refl _) (.int .u32 ((fK l k m + cL l m s : Nat) : Int)))
            have hgb : (gi l s == (m : Int)) = true := by rw [beq_iff_eq]; exact hgs
            rw [hgs] at q1
            have hmm : ((m : Int) == (m : Int)) = true := by simp
            obtain ⟨z, hz⟩ : ∃ z, z = fK l k m + cL l m s := ⟨_, rfl⟩
            have HZ := Lib.hid hz
            have hz2 : z ≤ 4718592 := by omega
            rw [← hz] at hv hst HBEL ⊢
            clear hz hgs hgb hcl
            go_wp2
            go_roundw
            case rel =>
             refine ⟨s + 1, by omega, by go_num, by rw [HL.out, ← Nat.add_assoc, ← HZ.out]; go_num, ?_, HBEL.out⟩
             have h1 := hst.out
             rw [us_set (g := cE l m (s + 1)) (fun i hi => by rw [HC.out i hi, hv.out])] at h1
             exact h1
            case measure => simp [intOf]; omega
           ·have HC : Hid (us (cE l m (s + 1)) k = us (cE l m s) k) := us_congr fun i _ => cE_skip hgs i
            have HL : Hid (cL l m (s + 1) = cL l m s) := by unfold Hid; rw [cL, if_neg hgs]; rfl
            have hgb : (gi l s == (m : Int)) = false := by rw [beq_eq_false_iff_ne]; exact hgs
            generalize gi l s = a at *
            clear hgs
            go_wp2
            go_roundw
            case rel => exact ⟨s + 1, by omega, by go_num, by rw [HL.out], by rw [HC.out]; exact hown, hbel⟩
            case measure => simp [intOf]; omega
          ·obtain rfl : s = k := by omega
           have HC : Hid (us (cE l (m + 1) 0) s = us (cE l m s) s) := us_congr fun i hi => (cE_next hi).symm
           have HL : Hid (fK l s (m + 1 - 1) + cN l s (m + 1 - 1) = fK l s m + cL l m s) := by
            unfold Hid cN
            rw [show m + 1 - 1 = m by omega, if_neg (by omega)]
           go_wp2
           go_roundw
           case rel => exact ⟨m + 1, by omega, by omega, by go_num, by rw [HL.out], by rw [HC.out]; exact hown, hbel⟩
           case measure => simp [intOf]; omega
        ·obtain rfl : m = 16 := by omega
         have HC : Hid (us (cE l 16 0) k = us (codeN l) k) := us_congr fun i hi => if_pos (.inl (by have := HRI.out i hi; omega))
         go_wp2
         go_ret2
         rw [HC.out] at hown
         exact .inr ⟨HE0.out, g, rfl, by rw [hgg]; exact hown, by rw [hgg]; exact hbel⟩
end Go.Proofs.YtldgdofefcehnaaGreatDoor
