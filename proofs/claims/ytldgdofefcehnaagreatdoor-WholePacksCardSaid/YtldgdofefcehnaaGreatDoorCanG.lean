/-
  THE CONTRACTS OF the document's own begins and Read. No conditions.
-/
import Derived.Test.YtldgdofefcehnaaGreatDoorCanE
import Derived.Test.YtldgdofefcehnaaGreatDoorRef8
namespace Go.Proofs.YtldgdofefcehnaaGreatDoor
open Go.RowKit
set_option maxRecDepth 100000
set_option linter.unusedVariables false
def hdB (b : Nat → Bool) (a n : Nat) : List Bool := (List.range n).map fun i => b (a + i)
theorem hdB_length (b : Nat → Bool) (a n : Nat) : (hdB b a n).length = n := by simp [hdB]
theorem hdB_succ (b : Nat → Bool) (a n : Nat) : hdB b a (n + 1) = hdB b a n ++ [b (a + n)] := range_map_succ _ _
theorem codeB_take (v s k : Nat) (hk : k ≤ s) : (codeB v s).take k = (List.range k).map fun i => v.testBit (s - 1 - i) := by
 unfold codeB
 rw [← List.map_take, List.take_range, Nat.min_eq_left hk]
theorem head_iff (b : Nat → Bool) (a v s : Nat) (hv : v < 2 ^ s) : ∀ k, k ≤ s → ((codeB v s).take k = hdB b a k ↔ v / 2 ^ (s - k) = cv b a k) := by
 intro k
 induction k with
 | zero =>
  intro _
  rw [List.take_zero, Nat.sub_zero, Nat.div_eq_of_lt hv]
  exact ⟨fun _ => rfl, fun _ => rfl⟩
 | succ k ih =>
  intro hk
  have ih := ih (by omega)
  rw [codeB_take v s k (by omega)] at ih
  rw [codeB_take v s (k + 1) hk, range_map_succ, hdB_succ]
  have h1 : v / 2 ^ (s - (k + 1)) = 2 * (v / 2 ^ (s - k)) + (v.testBit (s - 1 - k)).toNat := by
   have e : s - k = s - (k + 1) + 1 := by omega
   rw [e, Nat.pow_succ, ← Nat.div_div_eq_div_mul, show s - 1 - k = s - (k + 1) by omega]
   have h2 : (v.testBit (s - (k + 1))).toNat = v / 2 ^ (s - (k + 1)) % 2 := by
    rw [Nat.testBit_eq_decide_div_mod_eq]
    rcases Nat.mod_two_eq_zero_or_one (v / 2 ^ (s - (k + 1))) with h | h <;> simp [h]
   rw [h2]
   omega
  have h3 : cv b a (k + 1) = 2 * cv b a k + (b (a + k)).toNat := rfl
  have h4 := Bool.toNat_le (v.testBit (s - 1 - k))
  have h5 := Bool.toNat_le (b (a + k))
  constructor
  ·intro h
   obtain ⟨h6, h7⟩ := List.append_inj' h rfl
   have h8 := ih.1 h6
   have h9 : v.testBit (s - 1 - k) = b (a + k) := by simpa using h7
   rw [h1, h3, h8, h9]
  ·intro h
   rw [h1, h3] at h
   have h6 : v / 2 ^ (s - k) = cv b a k := by omega
   have h7 : (v.testBit (s - 1 - k)).toNat = (b (a + k)).toNat := by omega
   have h8 : v.testBit (s - 1 - k) = b (a + k) := by
    cases hx : v.testBit (s - 1 - k) <;> cases hy : b (a + k) <;> simp_all
   rw [ih.2 h6, h8]
theorem bc_head (X : List Bool) (a k : Nat) (h : a + k ≤ X.length) : ((bc X).drop a).take k = bc (hdB (gbit X) a k) := by
 refine ext_gt ?_ fun i hi => ?_
 ·rw [List.length_take, List.length_drop, bc_length, bc_length, hdB_length]; omega
 ·rw [List.length_take, List.length_drop, bc_length] at hi
  rw [gt_take, if_pos (by omega), gt_drop, gt_bc (by omega), gt_bc (by rw [hdB_length]; omega)]
  congr 1
  unfold hdB gbit
  simp
  rw [List.getElem?_range (by omega)]
  rfl
def begB (b : Nat → Bool) (a v s k : Nat) : Bool := decide (k ≤ s ∧ v / 2 ^ (s - k) = cv b a k)
set_option maxHeartbeats 1000000 in
theorem begins_c (b : Nat → Bool) (a v s k : Nat) (hs : s ≤ 15) (hv : v < 2 ^ s) (B : Option Addr) (cb : Nat) (w : World) (hB : Row w B k (bc (hdB b a k))) :
  Calls Tryz.prog 167 #[.int .u32 v, .int .i64 s, .slice B k cb] w fun e w' => e = .returned (.bool (begB b a v s k)) ∧ Below w.heap.size w w' := by
 have hp := Nat.pow_le_pow_right (n := 2) (by decide) hs
 have h15 : (2 : Nat) ^ 15 = 32768 := rfl
 have hcode := RefCodeB_c none 0 0 [] w (Row.nil w none) (by omega) v (by omega) (s : Int)
 rw [show heldN (s : Int) 32 = s by unfold heldN; omega, Nat.zero_add, List.nil_append] at hcode
 have HC := Lib.hid hcode
 have hkm := hB.max
 clear hcode hp h15
 by_cases hk : k ≤ s
 ·have hr : Hid (decide ((bc (codeB v s)).take k = bc (hdB b a k)) = begB b a v s k) := by
   unfold Hid begB
   refine decide_eq_decide.2 ?_
   rw [← head_iff b a v s hv k hk]
   unfold bc
   rw [← List.map_take]
   exact ⟨fun h => ⟨hk, bc_inj h⟩, fun h => by rw [h.2]⟩
  have hki : ¬ (s : Int) < (k : Int) := by omega
  clear hv
  go_enter Tryz.func167, Tryz.ntmps167
  go_wp2_with (go_at_call 179; refine HC.out.mono ?_; rintro e w1 ⟨A1, c1, rfl, hown1, hb1⟩; have hcap := own_cap hown1; have hrow := (own_in hown1).row.take hk; have hks : (k : Int) ≤ (c1 : Int) := by omega)
  refine (Same_d _ _ _ _ _ _ _ w1 hrow (hB.below hb1)).mono ?_
  rintro e _ ⟨rfl, q, rfl⟩
  go_wp2
  go_ret
  exact ⟨ret_bool hr.out, below_drewN hb1 q⟩
 ·have hr : Hid (begB b a v s k = false) := decide_eq_false fun h => hk h.1
  have hki : (s : Int) < (k : Int) := by omega
  clear hk hv
  go_enter Tryz.func167, Tryz.ntmps167
  go_wp2_with (go_at_call 179; refine HC.out.mono ?_; rintro e w1 ⟨A1, c1, rfl, hown1, hb1⟩)
  go_ret
  exact ⟨ret_bool hr.out.symm, hb1⟩
theorem no_hit {l : List Int} {b : Nat → Bool} {a k : Nat} (h1 : 1 ≤ k) (hno : ∀ j, j < l.length → gi l j = (k : Int) → codeN l j ≠ cv b a k) (hge : fK l l.length k ≤ cv b a k) : fK l l.length k + cN l l.length k ≤ cv b a k := by
 rw [show cN l l.length k = cL l k l.length from if_neg (by omega)]
 by_cases hc : cv b a k < fK l l.length k + cL l k l.length
 ·obtain ⟨i, hi, h2, h3⟩ := cL_at (l := l) (n := k) (k := l.length) (j := cv b a k - fK l l.length k) (by omega)
  refine absurd ?_ (hno i hi h2)
  unfold codeN
  rw [if_neg (by omega), show lnN l i = k by unfold lnN; omega, h3]
  omega
 ·omega
theorem f_ge {l : List Int} {b : Nat → Bool} {a k n : Nat} (hno : ∀ j, 1 ≤ j → j < k → fK l n j + cN l n j ≤ cv b a j) : fK l n k ≤ cv b a k := by
 cases k with
 | zero => exact Nat.zero_le _
 | succ k =>
  have h1 : fK l n (k + 1) = 2 * (fK l n k + cN l n k) := rfl
  have h2 : cv b a (k + 1) = 2 * cv b a k + (b (a + k)).toNat := rfl
  by_cases h0 : 1 ≤ k
  ·have := hno k h0 (by omega)
   omega
  ·obtain rfl : k = 0 := by omega
   have : fK l n 0 + cN l n 0 = 0 := rfl
   omega
theorem tot_ge (l : List Int) {i : Nat} : ∀ {k : Nat}, i < k → lnN l i ≤ totL l k := by
 intro k
 induction k with
 | zero => intro h; omega
 | succ k ih =>
  intro h
  unfold totL
  by_cases e : i = k
  ·subst e; omega
  ·have := ih (by omega); omega
theorem none_most {l : List Int} {n : Nat} (h : TabOk l n) {b : Nat → Bool} {a k : Nat} (hk : k = 0 ∨ k ≤ mxL l l.length) (hno : ∀ j, 1 ≤ j → j ≤ k → fK l l.length j + cN l l.length j ≤ cv b a j)
  (hnone : ∀ j, j < l.length → 0 < gi l j → ¬ (k ≤ lnN l j ∧ codeN l j / 2 ^ (lnN l j - k) = cv b a k)) : k = mxL l l.length := by
 have hmx := mx_le h.right
 by_cases e : k = mxL l l.length
 ·exact e
 ·have hlt : k < mxL l l.length := by omega
  rcases h.shut with hf | ht
  ·rw [← h.len] at hf
   have hle : fK l l.length k + cN l l.length k ≤ cv b a k := by
    by_cases h0 : 1 ≤ k
    ·exact hno k h0 (Nat.le_refl _)
    ·obtain rfl : k = 0 := by omega
     exact Nat.zero_le _
   obtain ⟨s, hs, h1, h2⟩ := begins_some h.right hf (15 - k) k (cv b a k) (by omega) (cv_lt b a k) hle
   have h3 := lnN_int h.right hs
   exact absurd ⟨by omega, h2⟩ (hnone s hs (by omega))
  ·rw [← h.len] at ht
   obtain ⟨i, hi, e2⟩ := mxL_at l (show 0 < mxL l l.length by omega)
   have h1 := tot_ge l hi
   have h2 := lnN_int h.right hi
   obtain rfl : k = 0 := by omega
   have hcode : codeN l i < 2 := by
    have h3 := (codeN_lt h.right (by rw [h.len]; exact h.fit) hi (by omega)).2
    have h4 : lnN l i = 1 := by omega
    rw [h4] at h3
    exact h3
   refine absurd ⟨Nat.zero_le _, ?_⟩ (hnone i hi (by omega))
   rw [Nat.sub_zero, show lnN l i = 1 by omega]
   show codeN l i / 2 ^ 1 = 0
   omega
set_option maxRecDepth 1000000 in
set_option maxHeartbeats 4000000 in
theorem RefRead_in {n gc m a : Nat} {l : List Int} (L B : Option Addr) (ca cb cg : Nat) (X : List Bool) (w : World) (hL : IRow w L n .i64 l) (hg : ∀ i, i < n → gc < w.heap.size ∧ w.cell? ⟨gc, i, none⟩ = some (.int .u32 ((codeN l i : Nat) : Int))) (hB : RowIn w B m cb (bc X)) (hm : m ≤ 1000000) (ha : a ≤ m) (hok : TabOk l n) (hcap : ¬ cb = a) :
  Calls Tryz.prog 137 #[.slice L n ca, .slice (some ⟨gc, 0, none⟩) n cg, .slice B m cb, .int .i64 a] w fun e w' => ∃ s k er : Nat, e = .returned (.tuple #[.int .i64 s, .int .i64 k, .int .i64 er]) ∧ RdS l (gbit X) m a s k er ∧ Below w.heap.size w w' := by
 have hlen := hok.len
 have hXl : X.length = m := by have := hB.row.len; rwa [bc_length] at this
 have hmx := mx_le hok.right
 have HOK := Lib.hid hok
 have HL := Lib.hid hlen
 have HX := Lib.hid hXl
 have HB := Lib.hid hB
 have hcm := hB.le
 have hn := hok.few
 have hsub : IntKind.i64.wrap ((m : Int) - (a : Int)) = (m : Int) - (a : Int) := IntWalk.i64_in _ (by omega)
 rw [hlen] at hmx
 obtain ⟨M, hM⟩ : ∃ M, M = mxL l n := ⟨_, rfl⟩
 rw [← hM] at hmx
 have HM := Lib.hid hM
 clear hlen hXl hB hok hM
 go_enter Tryz.func137, Tryz.ntmps137
 go_wp2
 go_loopw [11] (fun i wr => ∃ k : Nat, (k = 0 ∨ k ≤ M) ∧ a + (k - 1) ≤ m ∧ i = .int .i64 k ∧ Below w.heap.size w wr ∧ Hid (∀ j, 1 ≤ j → j < k → fK l n j + cN l n j ≤ cv (gbit X) a j)) (fun i _ => 17 - (intOf i).toNat)
 case atStart => exact ⟨0, .inl rfl, by omega, rfl, Below.refl _ _, fun j h1 h2 => by omega⟩
 case round =>
  obtain ⟨k, hkM, hak, rfl, hbel, hno⟩ := hrel
  have hk15 : (k : Int) ≤ 15 := by omega
  by_cases hsh : m < a + k
  ·have hshi : (m : Int) - (a : Int) < (k : Int) := by omega
   obtain ⟨k', hk'⟩ : ∃ k', k = k' + 1 := ⟨k - 1, by omega⟩
   have hw1 : IntKind.i64.wrap ((k : Int) - 1) = (k' : Int) := (IntWalk.i64_in _ (by omega)).trans (by omega)
   have hres : Hid (RdS l (gbit X) m a 0 k' 20) := ⟨fun j h1 h2 => by rw [HL.out]; exact hno.out j h1 (by omega), .inr (.inl ⟨rfl, rfl, by rw [HL.out, ← HM.out]; omega, by omega, fun h1 => by rw [HL.out]; exact hno.out k' h1 (by omega)⟩)⟩
   clear hk' hsh
   go_wp2
   go_ret3
   exact ⟨0, k', 20, rfl, hres.out, hbel⟩
  ·have hshi : ¬ (m : Int) - (a : Int) < (k : Int) := by omega
   have hk1 : (a : Int) + (k : Int) ≤ (cb : Int) := by omega
   have hak2 : a + k ≤ m := by omega
   have hsl := HB.out.slice (a := a) (M := a + k) (by omega) (by omega)
   rw [show a + k - a = k by omega, bc_head X a k (by rw [HX.out]; omega)] at hsl
   have HSL := Lib.hid hsl
   have hrow := (HSL.out.2 hcap).row
   have HROW := Lib.hid hrow
   clear HSL hrow hsl hsh
   go_wp2
   go_loopw [13, 14] (fun sm i W2 => ∃ (s : Nat) (f : Bool), s ≤ n ∧ i = .int .i64 s ∧ sm = .bool f ∧ Below w.heap.size w W2 ∧ Hid (∀ j, j < s → 0 < gi l j → gi l j = (k : Int) → codeN l j ≠ cv (gbit X) a k) ∧ Hid (f = true ↔ ∃ j, j < s ∧ 0 < gi l j ∧ k ≤ lnN l j ∧ codeN l j / 2 ^ (lnN l j - k) = cv (gbit X) a k)) (fun _ i _ => n - (intOf i).toNat)
   case atStart => exact ⟨0, false, by omega, rfl, rfl, hbel, fun j hj => by omega, ⟨fun h => (by cases h), fun ⟨j, hj, _⟩ => by omega⟩⟩
   case round =>
    clear hbel
    obtain ⟨s, f, hs, rfl, rfl, hbel, hne, hsome⟩ := hrel
    by_cases hlt : s < n
    ·have hsn : (s : Int) < (n : Int) := by omega
     obtain ⟨bL, oL, rfl, hbl, q1⟩ := (hL.below hbel).at_ hlt
     obtain ⟨hgl, q2⟩ := hg s hlt
     have hgl2 : gc < wr.heap.size := by have := hbel.size; omega
     replace q2 := (hbel.cell (p := ⟨gc, s, none⟩) hgl).trans q2
     have hri := HOK.out.right s (by rw [HL.out]; exact hlt)
     obtain ⟨y, hy⟩ : ∃ y : Nat, gi l s = y := ⟨(gi l s).toNat, by omega⟩
     have hly : lnN l s = y := by unfold lnN; omega
     rw [hy] at q1
     by_cases hy0 : 0 < y
     ·have hyi : (0 : Int) < (y : Int) := by omega
      have hbg := fun W (hb : Below w.heap.size w W) => begins_c (gbit X) a (codeN l s) y k (by omega) (by have := (codeN_lt HOK.out.right (by rw [HL.out]; exact HOK.out.fit) (by rw [HL.out]; exact hlt) (by omega)).2; rwa [hly] at this) _ (cb - a) W (HROW.out.below hb)
      obtain ⟨x, hx⟩ : ∃ x, x = codeN l s := ⟨_, rfl⟩
      rw [← hx] at q2 hbg
      have HXC := Lib.hid hx
      by_cases hbb : k ≤ y ∧ x / 2 ^ (y - k) = cv (gbit X) a k
      ·have ebb : begB (gbit X) a x y k = true := decide_eq_true hbb
       rw [ebb] at hbg
       have HBG := Lib.hid hbg
       have HBB := Lib.hid hbb
       by_cases hyk : y = k
       ·subst hyk
        have hres : Hid (RdS l (gbit X) m a s y 0) := by
         refine ⟨fun j h1 h2 => by rw [HL.out]; exact hno.out j h1 h2, .inl ⟨rfl, by omega, hak2, by rw [HL.out]; exact hlt, hy, ?_⟩⟩
         have h1 := HBB.out.2
         rw [Nat.sub_self, Nat.pow_zero, Nat.div_one] at h1
         rw [← h1, HXC.out]
        have hyy : ((y : Int) == (y : Int)) = true := by simp
        clear hbg hbb ebb hx hy hly hri hgl
        go_wp2
        go_region_held3 (fun w' => w'.cell? ⟨bL, oL + s, none⟩ = some (.int .i64 (y : Int)) ∧ w'.cell? ⟨gc, s, none⟩ = some (.int .u32 (x : Int))) (first
         | go_keep
         | (go_split_ands
            refine ⟨?_, ?_⟩
            ·(rw [hb2.cell (p := ⟨bL, oL + s, none⟩) (by exact hbl)]; assumption)
            ·(rw [hb2.cell (p := ⟨gc, s, none⟩) (by exact hgl2)]; assumption)))
         ((go_at_call 167; refine (HBG.out _ (by exact below_drewN hbel 1)).mono ?_; rintro e w2 ⟨rfl, hb2⟩))
        go_wp2
        go_ret3
        exact ⟨s, y, 0, rfl, hres.out, (below_drewN hbel 1).trans (hb2.mono hbel.size)⟩
       ·have hyk2 : ((y : Int) == (k : Int)) = false := by rw [beq_eq_false_iff_ne]; omega
        have hne2 : Hid (∀ j, j < s + 1 → 0 < gi l j → gi l j = (k : Int) → codeN l j ≠ cv (gbit X) a k) := fun j hj h1 h2 => by
         by_cases e : j = s
         ·subst e; omega
         ·exact hne.out j (by omega) h1 h2
        have hsome2 : Hid (true = true ↔ ∃ j, j < s + 1 ∧ 0 < gi l j ∧ k ≤ lnN l j ∧ codeN l j / 2 ^ (lnN l j - k) = cv (gbit X) a k) := ⟨fun _ => ⟨s, by omega, by omega, by rw [hly]; exact hbb.1, by rw [hly, ← hx]; exact hbb.2⟩, fun _ => rfl⟩
        clear hbg hbb ebb hx hy hly hri hgl hyk
        go_wp2
        go_region_held3 (fun w' => w'.cell? ⟨bL, oL + s, none⟩ = some (.int .i64 (y : Int)) ∧ w'.cell? ⟨gc, s, none⟩ = some (.int .u32 (x : Int))) (first
         | go_keep
         | (go_split_ands
            refine ⟨?_, ?_⟩
            ·(rw [hb2.cell (p := ⟨bL, oL + s, none⟩) (by exact hbl)]; assumption)
            ·(rw [hb2.cell (p := ⟨gc, s, none⟩) (by exact hgl2)]; assumption)))
         ((go_at_call 167; refine (HBG.out _ (by exact below_drewN hbel 1)).mono ?_; rintro e w2 ⟨rfl, hb2⟩))
        go_wp2
        go_roundw
        case rel => exact ⟨s + 1, true, by omega, by go_num, rfl, (below_drewN hbel 1).trans (hb2.mono hbel.size), hne2, ⟨fun _ => hsome2.out.1 trivial, fun _ => rfl⟩⟩
        case measure => simp [intOf]; omega
      ·have ebb : begB (gbit X) a x y k = false := decide_eq_false hbb
       rw [ebb] at hbg
       have HBG := Lib.hid hbg
       have hne2 : Hid (∀ j, j < s + 1 → 0 < gi l j → gi l j = (k : Int) → codeN l j ≠ cv (gbit X) a k) := fun j hj h1 h2 => by
        by_cases e : j = s
        ·subst e
         have e2 : y = k := by omega
         intro e3
         refine hbb ⟨by omega, ?_⟩
         rw [e2, Nat.sub_self, Nat.pow_zero, Nat.div_one, hx, e3]
        ·exact hne.out j (by omega) h1 h2
       have hsome2 : Hid (f = true ↔ ∃ j, j < s + 1 ∧ 0 < gi l j ∧ k ≤ lnN l j ∧ codeN l j / 2 ^ (lnN l j - k) = cv (gbit X) a k) := by
        refine ⟨fun h => ?_, fun ⟨j, h1, h2, h3, h4⟩ => ?_⟩
        ·obtain ⟨j, h1, h2⟩ := hsome.out.1 h
         exact ⟨j, by omega, h2⟩
        ·by_cases e : j = s
         ·subst e
          rw [hly] at h3 h4
          exact absurd ⟨h3, by rw [hx]; exact h4⟩ hbb
         ·exact hsome.out.2 ⟨j, by omega, h2, h3, h4⟩
       clear hbg hbb ebb hx hy hly hri hgl
       go_wp2
       go_region_held3 (fun w' => w'.cell? ⟨bL, oL + s, none⟩ = some (.int .i64 (y : Int)) ∧ w'.cell? ⟨gc, s, none⟩ = some (.int .u32 (x : Int))) (first
        | go_keep
        | (go_split_ands
           refine ⟨?_, ?_⟩
           ·(rw [hb2.cell (p := ⟨bL, oL + s, none⟩) (by exact hbl)]; assumption)
           ·(rw [hb2.cell (p := ⟨gc, s, none⟩) (by exact hgl2)]; assumption)))
        ((go_at_call 167; refine (HBG.out _ (by exact below_drewN hbel 1)).mono ?_; rintro e w2 ⟨rfl, hb2⟩))
       go_wp2
       go_roundw
       case rel => exact ⟨s + 1, f, by omega, by go_num, rfl, (below_drewN hbel 1).trans (hb2.mono hbel.size), hne2, hsome2⟩
       case measure => simp [intOf]; omega
     ·obtain rfl : y = 0 := by omega
      have hne2 : Hid (∀ j, j < s + 1 → 0 < gi l j → gi l j = (k : Int) → codeN l j ≠ cv (gbit X) a k) := fun j hj h1 h2 => by
       by_cases e : j = s
       ·subst e; omega
       ·exact hne.out j (by omega) h1 h2
      have hsome2 : Hid (f = true ↔ ∃ j, j < s + 1 ∧ 0 < gi l j ∧ k ≤ lnN l j ∧ codeN l j / 2 ^ (lnN l j - k) = cv (gbit X) a k) := by
       refine ⟨fun h => ?_, fun ⟨j, h1, h2, h3, h4⟩ => ?_⟩
       ·obtain ⟨j, h1, h2⟩ := hsome.out.1 h
        exact ⟨j, by omega, h2⟩
       ·by_cases e : j = s
        ·subst e; omega
        ·exact hsome.out.2 ⟨j, by omega, h2, h3, h4⟩
      clear hy hly hri hgl q2
      go_wp2
      go_quiet (fail)
      go_wp2
      go_roundw
      case rel => exact ⟨s + 1, f, by omega, by go_num, rfl, below_drewN hbel _, hne2, hsome2⟩
      case measure => simp [intOf]; omega
    ·obtain rfl : s = n := by omega
     have hlk : Hid (∀ j, 1 ≤ j → j ≤ k → fK l s j + cN l s j ≤ cv (gbit X) a j) := fun j h1 h2 => by
      by_cases e : j = k
      ·subst e
       rw [← HL.out]
       refine no_hit h1 (fun i hi h3 => hne.out i (by rw [← HL.out]; exact hi) (by omega) h3) (f_ge fun i h3 h4 => ?_)
       rw [HL.out]
       exact hno.out i h3 h4
      ·exact hno.out j h1 (by omega)
     cases f with
     | true =>
      have hnx : Hid (k + 1 ≤ M) := by
       obtain ⟨j, h1, h2, h3, h4⟩ := hsome.out.1 rfl
       have h5 : ¬ lnN l j = k := fun e => by
        have h6 := lnN_int HOK.out.right (i := j) (by rw [HL.out]; exact h1)
        refine hne.out j h1 h2 (by omega) ?_
        rw [e, Nat.sub_self, Nat.pow_zero, Nat.div_one] at h4
        exact h4
       have h7 := mxL_ge l h1
       have := HM.out
       unfold Hid
       omega
      go_wp2
      go_roundw
      case rel => exact ⟨k + 1, .inr hnx.out, by omega, by go_num, hbel, fun j h1 h2 => hlk.out j h1 (by omega)⟩
      case measure => simp [intOf]; omega
     | false =>
      have hres : Hid (RdS l (gbit X) m a 0 k 34) := by
       have e : k = mxL l l.length := by
        refine none_most HOK.out (b := gbit X) (a := a) (by rw [HL.out, ← HM.out]; exact hkM) (fun j h1 h2 => by rw [HL.out]; exact hlk.out j h1 h2) (fun j h1 h2 h3 => ?_)
        have := hsome.out.2 ⟨j, by rw [← HL.out]; exact h1, h2, h3.1, h3.2⟩
        cases this
       exact ⟨fun j h1 h2 => by rw [HL.out]; exact hno.out j h1 h2, .inr (.inr ⟨rfl, rfl, e, hak2, fun h1 => by rw [HL.out]; exact hlk.out k h1 (Nat.le_refl _)⟩)⟩
      go_wp2
      go_ret3
      exact ⟨0, k, 34, rfl, hres.out, hbel⟩
set_option maxRecDepth 1000000 in
set_option maxHeartbeats 4000000 in
theorem RefRead_end {n gc a : Nat} {l : List Int} (L B : Option Addr) (ca cg : Nat) (X : List Bool) (w : World) (hL : IRow w L n .i64 l) (hg : ∀ i, i < n → gc < w.heap.size ∧ w.cell? ⟨gc, i, none⟩ = some (.int .u32 ((codeN l i : Nat) : Int))) (hX : X.length = a) (hm : a ≤ 1000000) (hok : TabOk l n) :
  Calls Tryz.prog 137 #[.slice L n ca, .slice (some ⟨gc, 0, none⟩) n cg, .slice B a a, .int .i64 a] w fun e w' => ∃ s k er : Nat, e = .returned (.tuple #[.int .i64 s, .int .i64 k, .int .i64 er]) ∧ RdS l (gbit X) a a s k er ∧ Below w.heap.size w w' := by
 have HOK := Lib.hid hok
 have HL := Lib.hid hok.len
 have hn := hok.few
 obtain ⟨M, hM⟩ : ∃ M, M = mxL l n := ⟨_, rfl⟩
 have HM := Lib.hid hM
 clear hok hM hX
 go_enter Tryz.func137, Tryz.ntmps137
 go_wp2
 go_loopw [11] (fun i wr => ∃ k : Nat, (k = 0 ∨ (k = 1 ∧ 1 ≤ M)) ∧ i = .int .i64 k ∧ Below w.heap.size w wr) (fun i _ => 17 - (intOf i).toNat)
 case atStart => exact ⟨0, .inl rfl, rfl, Below.refl _ _⟩
 case round =>
  obtain ⟨k, hk01, rfl, hbel⟩ := hrel
  rcases hk01 with rfl | ⟨rfl, hM1⟩
  ·rw [show (((0 : Nat) : Int)) = (0 : Int) from rfl]
   go_wp2
   go_loopw [13, 14] (fun sm i W2 => ∃ (s : Nat) (f : Bool), s ≤ n ∧ i = .int .i64 s ∧ sm = .bool f ∧ Below w.heap.size w W2 ∧ Hid (f = true ↔ ∃ j, j < s ∧ 0 < gi l j)) (fun _ i _ => n - (intOf i).toNat)
   case atStart => exact ⟨0, false, by omega, rfl, rfl, hbel, ⟨fun h => (by cases h), fun ⟨j, hj, _⟩ => by omega⟩⟩
   case round =>
    clear hbel
    obtain ⟨s, f, hs, rfl, rfl, hbel, hsome⟩ := hrel
    by_cases hlt : s < n
    ·have hsn : (s : Int) < (n : Int) := by omega
     obtain ⟨bL, oL, rfl, hbl, q1⟩ := (hL.below hbel).at_ hlt
     obtain ⟨hgl, q2⟩ := hg s hlt
     have hgl2 : gc < wr.heap.size := by have := hbel.size; omega
     replace q2 := (hbel.cell (p := ⟨gc, s, none⟩) hgl).trans q2
     have hri := HOK.out.right s (by rw [HL.out]; exact hlt)
     obtain ⟨y, hy⟩ : ∃ y : Nat, gi l s = y := ⟨(gi l s).toNat, by omega⟩
     have hly : lnN l s = y := by unfold lnN; omega
     rw [hy] at q1
     by_cases hy0 : 0 < y
     ·have hyi : (0 : Int) < (y : Int) := by omega
      have hyz : ((y : Int) == 0) = false := by rw [beq_eq_false_iff_ne]; omega
      have hcl : codeN l s < 2 ^ y := by
       have := (codeN_lt HOK.out.right (by rw [HL.out]; exact HOK.out.fit) (by rw [HL.out]; exact hlt) (by omega)).2
       rwa [hly] at this
      have hbg := fun W (hb : Below w.heap.size w W) => begins_c (gbit X) a (codeN l s) y 0 (by omega) hcl B 0 W (Row.nil W B)
      have ebb : begB (gbit X) a (codeN l s) y 0 = true := decide_eq_true ⟨Nat.zero_le _, by rw [Nat.sub_zero, Nat.div_eq_of_lt hcl]; rfl⟩
      rw [ebb] at hbg
      obtain ⟨x, hx⟩ : ∃ x, x = codeN l s := ⟨_, rfl⟩
      rw [← hx] at q2 hbg
      have HBG := Lib.hid hbg
      have hsome2 : Hid (true = true ↔ ∃ j, j < s + 1 ∧ 0 < gi l j) := ⟨fun _ => ⟨s, by omega, by omega⟩, fun _ => rfl⟩
      clear hbg ebb hx hy hly hri hgl hcl
      go_wp2
      go_region_held3 (fun w' => w'.cell? ⟨bL, oL + s, none⟩ = some (.int .i64 (y : Int)) ∧ w'.cell? ⟨gc, s, none⟩ = some (.int .u32 (x : Int))) (first
       | go_keep
       | (go_split_ands
          refine ⟨?_, ?_⟩
          ·(rw [hb2.cell (p := ⟨bL, oL + s, none⟩) (by exact hbl)]; assumption)
          ·(rw [hb2.cell (p := ⟨gc, s, none⟩) (by exact hgl2)]; assumption)))
       ((go_at_call 167; refine (HBG.out _ (by exact below_drewN hbel 1)).mono ?_; rintro e w2 ⟨rfl, hb2⟩))
      go_wp2
      go_roundw
      case rel => exact ⟨s + 1, true, by omega, by go_num, rfl, (below_drewN hbel 1).trans (hb2.mono hbel.size), ⟨fun _ => hsome2.out.1 trivial, fun _ => rfl⟩⟩
      case measure => simp [intOf]; omega
     ·obtain rfl : y = 0 := by omega
      have hsome2 : Hid (f = true ↔ ∃ j, j < s + 1 ∧ 0 < gi l j) := by
       refine ⟨fun h => ?_, fun ⟨j, h1, h2⟩ => ?_⟩
       ·obtain ⟨j, h1, h2⟩ := hsome.out.1 h
        exact ⟨j, by omega, h2⟩
       ·by_cases e : j = s
        ·subst e; omega
        ·exact hsome.out.2 ⟨j, by omega, h2⟩
      clear hy hly hri hgl q2
      go_wp2
      go_quiet (fail)
      go_wp2
      go_roundw
      case rel => exact ⟨s + 1, f, by omega, by go_num, rfl, below_drewN hbel _, hsome2⟩
      case measure => simp [intOf]; omega
    ·obtain rfl : s = n := by omega
     cases f with
     | true =>
      have hnx : Hid (1 ≤ M) := by
       obtain ⟨j, h1, h2⟩ := hsome.out.1 rfl
       have h6 := lnN_int HOK.out.right (i := j) (by rw [HL.out]; exact h1)
       have h7 := mxL_ge l h1
       have := HM.out
       unfold Hid
       omega
      go_wp2
      go_roundw
      case rel => exact ⟨1, .inr ⟨rfl, hnx.out⟩, rfl, hbel⟩
      case measure => simp [intOf]
     | false =>
      have hres : Hid (RdS l (gbit X) a a 0 0 34) := by
       have e : 0 = mxL l l.length := by
        refine none_most HOK.out (b := gbit X) (a := a) (.inl rfl) (fun j h1 h2 => by omega) (fun j h1 h2 h3 => ?_)
        have := hsome.out.2 ⟨j, by rw [← HL.out]; exact h1, h2⟩
        cases this
       exact ⟨fun j h1 h2 => by omega, .inr (.inr ⟨rfl, rfl, e, Nat.le_refl _, fun h1 => by omega⟩)⟩
      go_wp2
      go_ret3
      exact ⟨0, 0, 34, rfl, hres.out, hbel⟩
  ·rw [show (((1 : Nat) : Int)) = (1 : Int) from rfl]
   have hres : Hid (RdS l (gbit X) a a 0 0 20) := ⟨fun j h1 h2 => by omega, .inr (.inl ⟨rfl, rfl, by rw [HL.out, ← HM.out]; omega, rfl, fun h1 => by omega⟩)⟩
   clear hM1
   go_wp2
   go_ret3
   exact ⟨0, 0, 20, rfl, hres.out, hbel⟩
theorem RefRead_c {n gc m a : Nat} {l : List Int} (L B : Option Addr) (ca cb cg : Nat) (X : List Bool) (w : World) (hL : IRow w L n .i64 l) (hg : ∀ i, i < n → gc < w.heap.size ∧ w.cell? ⟨gc, i, none⟩ = some (.int .u32 ((codeN l i : Nat) : Int))) (hB : RowIn w B m cb (bc X)) (hm : m ≤ 1000000) (ha : a ≤ m) (hok : TabOk l n) :
  Calls Tryz.prog 137 #[.slice L n ca, .slice (some ⟨gc, 0, none⟩) n cg, .slice B m cb, .int .i64 a] w fun e w' => ∃ s k er : Nat, e = .returned (.tuple #[.int .i64 s, .int .i64 k, .int .i64 er]) ∧ RdS l (gbit X) m a s k er ∧ Below w.heap.size w w' := by
 by_cases hcap : cb = a
 ·have hle := hB.le
  obtain rfl : m = a := by omega
  subst hcap
  exact RefRead_end L B ca cg X w hL hg (by have := hB.row.len; rwa [bc_length] at this) hm hok
 ·exact RefRead_in L B ca cb cg X w hL hg hB hm ha hok hcap
end Go.Proofs.YtldgdofefcehnaaGreatDoor
