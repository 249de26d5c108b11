/-
  LAW 09: what Make answers, by symbols; the laws' own examples (alive); LengthsCosts, LengthsMade. No conditions.
-/
import Derived.Test.YtfnjjeopojdnjaaLenK
import Derived.Test.YtfnjjeopojdnjaaSameI
namespace Go.Proofs.Ytfnjjeopojdnjaa
open Go.RowKit
set_option maxRecDepth 100000
set_option linter.unusedVariables false

theorem irow_lit (w : World) (l : List Int) (n g : Nat) (hn : n = l.length) (hg : g = w.heap.size) (hl : l.length ≤ maxLen) (C : Array Value) (hC : C = (l.map fun x => Value.int .i64 x).toArray) (t : TypeId) (hwf : ∀ i, i < n → (Lit.int .i64 (gi l i)).wf = true) : IRow (w.alloc (.cells C t)) (some ⟨g, 0, none⟩) n .i64 l := by
  subst hn hg hC
  refine ⟨rfl, hl, fun _ => ⟨w.heap.size, 0, rfl, by simp, fun i hi => ?_⟩, hwf⟩
  have h := heap_alloc_new w (.cells (l.map fun x => Value.int .i64 x).toArray t)
  rw [Nat.zero_add, cell_of_row _ _ i _ t (0, 0) h]
  unfold gi
  simp [List.getD_eq_getElem?_getD, hi]
theorem IRow.alloc {w : World} {A : Option Addr} {n : Nat} {l : List Int} (h : IRow w A n .i64 l) (o : Obj) : IRow (w.alloc o) A n .i64 l := h.below ((Below.refl _ _).alloc (Nat.le_refl _) _)
theorem comeN_sum (fr : List Int) (n : Nat) : (comeN fr n).length = sumF (fun v => if 0 < gi fr v then 1 else 0) n := by
  induction n with
  | zero => rfl
  | succ n ih => rw [come_succ, sumF_succ, ih]
theorem Come.len {fr : List Int} {n m : Nat} {d : Nat → Nat} (h : Come fr n m d) : m = (comeN fr n).length := by
  rw [comeN_sum, ← sum_come h (fun _ => 1), sumF_const, Nat.mul_one]
theorem arr_gi (A : Nat → Nat) {n v : Nat} (h : v < n) : gi (nI (arr A n)) v = (A v : Nat) := by rw [nI_at _ (by rw [arr_length]; exact h), arr_at A h]
theorem Make_x (FA : Option Addr) (n cf : Nat) (fr : List Int) (Li : Int) (w : World) (hf : IRow w FA n .i64 fr) (hok : chkE fr n Li = 0) :
    Calls Try.prog 10 #[.slice FA n cf, .int .i64 Li] w fun e w' => ∃ g, e = .returned (.tuple #[.slice (some ⟨g, 0, none⟩) n n, .int .i64 0]) ∧ ∃ A, IRow w' (some ⟨g, 0, none⟩) n .i64 (nI (arr A n)) ∧ MadeX fr n Li.toNat (comeN fr n).length A ∧ Below w.heap.size w w' := by
  obtain ⟨hL, hn, hfb, hmany⟩ := chk_no hok
  refine (Make_ok FA n cf fr Li w hf hok).mono ?_
  rintro e w' ⟨g, rfl, m, d, A, hown, hmade, hb⟩
  have hx := hmade.ext (by omega) (by omega) (fun i hi => (FreqB_all hfb i hi).1)
  refine ⟨g, rfl, A, IRow.ofN hown (fun x hx' => ?_) (by omega), by rw [← hmade.come.len]; exact hx, hb⟩
  obtain ⟨v, _, rfl⟩ := List.mem_map.1 hx'
  have := hx.most v
  omega
/-- its lengths are right, and their sum is told -/
theorem MadeX.kr {fr : List Int} {n L m : Nat} {A : Nat → Nat} (h : MadeX fr n L m A) (hL : L ≤ 15) : ∀ k, k ≤ n → Go.Proofs.Ytfnjjeopojdnjaa.kr (nI (arr A n)) k = krF fr A k := by
  intro k
  induction k with
  | zero => intro _; rfl
  | succ k ih =>
    intro hk
    have e := arr_gi A (show k < n by omega)
    show Go.Proofs.Ytfnjjeopojdnjaa.kr (nI (arr A n)) k + (if 0 < gi (nI (arr A n)) k then 2 ^ (15 - lnN (nI (arr A n)) k) else 0) = krF fr A k + (if 0 < gi fr k then 2 ^ (15 - A k) else 0)
    rw [ih (by omega)]
    congr 1
    unfold lnN
    rw [e]
    by_cases h0 : 0 < gi fr k
    · have := h.pos k (by omega) h0
      rw [if_pos h0, if_pos (by omega), Int.toNat_natCast]
    · have := h.zero k (by omega) h0
      rw [if_neg h0, if_neg (by omega)]
theorem krF_lt {f : Nat → Nat} {n : Nat} {T : Nat} (h : sumF f n = T) {i : Nat} (hi : i < n) : f i ≤ T := by rw [← h]; exact sumF_ge_at hi
/-! ### The examples -/
def ex1 : List Int := [1, 1, 2, 4]
def ex2 : List Int := [0, 9]
def ex3 : List Int := [1, 1, 1]
theorem ex1_all : ∀ a b c e : Nat, 1 ≤ a → a ≤ 3 → 1 ≤ b → b ≤ 3 → 1 ≤ c → c ≤ 3 → 1 ≤ e → e ≤ 3 → 2 ^ (15 - a) + 2 ^ (15 - b) + 2 ^ (15 - c) + 2 ^ (15 - e) = 32768 → a + b + 2 * c + 4 * e ≤ 14 → a = 3 ∧ b = 3 ∧ c = 2 ∧ e = 1 := by
  intro a b c e ha1 ha hb1 hb hc1 hc he1 he
  rcases (show a = 1 ∨ a = 2 ∨ a = 3 by omega) with rfl | rfl | rfl <;> rcases (show b = 1 ∨ b = 2 ∨ b = 3 by omega) with rfl | rfl | rfl <;> rcases (show c = 1 ∨ c = 2 ∨ c = 3 by omega) with rfl | rfl | rfl <;> rcases (show e = 1 ∨ e = 2 ∨ e = 3 by omega) with rfl | rfl | rfl <;> decide
theorem ex1_made {m : Nat} {A : Nat → Nat} (h : MadeX ex1 4 3 m A) (hm : m = 4) : nI (arr A 4) = [3, 3, 2, 1] := by
  subst hm
  have h0 := h.pos 0 (by decide) (by decide)
  have h1 := h.pos 1 (by decide) (by decide)
  have h2 := h.pos 2 (by decide) (by decide)
  have h3 := h.pos 3 (by decide) (by decide)
  have hf : 0 + 2 ^ (15 - A 0) + 2 ^ (15 - A 1) + 2 ^ (15 - A 2) + 2 ^ (15 - A 3) = 32768 := h.full
  have hl := h.least (fun v => [3, 3, 2, 1].getD v 0) (fun v hv _ => by
    have : ∀ v, v < 4 → 1 ≤ [3, 3, 2, 1].getD v 0 ∧ [3, 3, 2, 1].getD v 0 ≤ 3 := by decide
    exact this v hv) (by decide +kernel)
  have hl2 : 0 + 1 * A 0 + 1 * A 1 + 2 * A 2 + 4 * A 3 ≤ 14 := hl
  obtain ⟨e0, e1, e2, e3⟩ := ex1_all (A 0) (A 1) (A 2) (A 3) h0 (h.most 0) h1 (h.most 1) h2 (h.most 2) h3 (h.most 3) (by omega) (by omega)
  show [((A 0 : Nat) : Int), ((A 1 : Nat) : Int), ((A 2 : Nat) : Int), ((A 3 : Nat) : Int)] = _
  rw [e0, e1, e2, e3]
  rfl
theorem ex2_made {m : Nat} {A : Nat → Nat} (h : MadeX ex2 2 1 m A) : nI (arr A 2) = [0, 1] := by
  have h0 := h.zero 0 (by decide) (by decide)
  have h1 := h.pos 1 (by decide) (by decide)
  have h2 := h.most 1
  show [((A 0 : Nat) : Int), ((A 1 : Nat) : Int)] = _
  rw [h0, show A 1 = 1 by omega]
  rfl
theorem wf_small (l : List Int) (n : Nat) (h : ∀ i, i < n → 0 ≤ gi l i ∧ gi l i ≤ 100) : ∀ i, i < n → (Lit.int .i64 (gi l i)).wf = true := by
  intro i hi
  have h1 := h i hi
  have hmin : IntKind.i64.min = -9223372036854775808 := rfl
  have hmax : IntKind.i64.max = 9223372036854775807 := rfl
  simp only [Lit.wf, Bool.and_eq_true, decide_eq_true_eq]
  omega
set_option maxRecDepth 1000000 in
set_option maxHeartbeats 4000000 in
theorem alive09_c (w : World) : Calls Try.prog 9 #[] w fun e w' => e = .returned (.bool true) ∧ Below w.heap.size w w' := by
  go_enter Try.func9, Try.ntmps9
  go_wp2_with fail
  have hF := irow_lit w ex1 4 w.heap.size rfl rfl (by decide) #[.int .i64 1, .int .i64 1, .int .i64 2, .int .i64 4] rfl 3 (wf_small _ _ (by decide))
  have hB := (Below.refl w.heap.size w).alloc (Nat.le_refl _) (.cells #[.int .i64 1, .int .i64 1, .int .i64 2, .int .i64 4] 3)
  generalize w.alloc (.cells #[.int .i64 1, .int .i64 1, .int .i64 2, .int .i64 4] 3) = w1 at *
  refine (Make_x _ 4 _ ex1 3 w1 hF (by decide +kernel)).mono ?_
  rintro e w2 ⟨g2, rfl, A, hr, hx, hb⟩
  rw [ex1_made hx (by decide +kernel)] at hr
  have hB2 := hB.trans (hb.mono hB.size)
  clear hF hB hb hx
  go_wp2_with fail
  have hF := irow_lit w2 ex2 2 w2.heap.size rfl rfl (by decide) #[.int .i64 0, .int .i64 9] rfl 3 (wf_small _ _ (by decide))
  have hB3 := hB2.alloc hB2.size (.cells #[.int .i64 0, .int .i64 9] 3)
  have hr3 := hr.alloc (.cells #[.int .i64 0, .int .i64 9] 3)
  generalize w2.alloc (.cells #[.int .i64 0, .int .i64 9] 3) = w3 at *
  refine (Make_x _ 2 _ ex2 1 w3 hF (by decide +kernel)).mono ?_
  rintro e w4 ⟨g4, rfl, A', hs, hx, hb⟩
  rw [ex2_made hx] at hs
  have hB4 := hB3.trans (hb.mono hB3.size)
  have hr4 := hr3.below hb
  clear hF hB2 hB3 hr hr3 hb hx
  go_wp2_with fail
  have hF := irow_lit w4 ex3 3 w4.heap.size rfl rfl (by decide) #[.int .i64 1, .int .i64 1, .int .i64 1] rfl 3 (wf_small _ _ (by decide))
  have hB5 := hB4.alloc hB4.size (.cells #[.int .i64 1, .int .i64 1, .int .i64 1] 3)
  have hr5 := hr4.alloc (.cells #[.int .i64 1, .int .i64 1, .int .i64 1] 3)
  have hs5 := hs.alloc (.cells #[.int .i64 1, .int .i64 1, .int .i64 1] 3)
  generalize w4.alloc (.cells #[.int .i64 1, .int .i64 1, .int .i64 1] 3) = w5 at *
  refine (Make_no _ 3 _ ex3 1 w5 hF (by decide +kernel)).mono ?_
  rintro e w6 ⟨rfl, hb⟩
  rw [show chkE ex3 3 1 = 3 by decide +kernel]
  have hB6 := hB5.trans (hb.mono hB5.size)
  have hr6 := hr5.below hb
  have hs6 := hs5.below hb
  clear hF hB4 hB5 hr4 hr5 hs hs5 hb
  go_wp2_with fail
  refine (Make_no _ 0 _ [] 16 w6 (IRow.nil_ w6 none .i64) (by decide +kernel)).mono ?_
  rintro e w7 ⟨rfl, hb⟩
  rw [show chkE [] 0 16 = 1 by decide +kernel]
  have hB7 := hB6.trans (hb.mono hB6.size)
  have hr7 := hr6.below hb
  have hs7 := hs6.below hb
  clear hB6 hr6 hs6 hb
  go_wp2_with fail
  have hF := irow_lit w7 [3, 3, 2, 1] 4 w7.heap.size rfl rfl (by decide) #[.int .i64 3, .int .i64 3, .int .i64 2, .int .i64 1] rfl 3 (wf_small _ _ (by decide))
  have hB8 := hB7.alloc hB7.size (.cells #[.int .i64 3, .int .i64 3, .int .i64 2, .int .i64 1] 3)
  have hr8 := hr7.alloc (.cells #[.int .i64 3, .int .i64 3, .int .i64 2, .int .i64 1] 3)
  have hs8 := hs7.alloc (.cells #[.int .i64 3, .int .i64 3, .int .i64 2, .int .i64 1] 3)
  generalize w7.alloc (.cells #[.int .i64 3, .int .i64 3, .int .i64 2, .int .i64 1] 3) = w8 at *
  refine (SameI_c _ _ 4 4 _ _ _ _ w8 hr8 hF).mono ?_
  rintro e w9 ⟨rfl, q, rfl⟩
  rw [show decide (([3, 3, 2, 1] : List Int) = [3, 3, 2, 1]) = true by decide]
  have hB9 := below_drewN hB8 q
  have hr9 := hr8.drewN q
  have hs9 := hs8.drewN q
  generalize w8.drewN q = w9 at *
  clear hF hB7 hB8 hr7 hr8 hs7 hs8
  go_wp2_with fail
  have hF := irow_lit w9 [0, 1] 2 w9.heap.size rfl rfl (by decide) #[.int .i64 0, .int .i64 1] rfl 3 (wf_small _ _ (by decide))
  have hB10 := hB9.alloc hB9.size (.cells #[.int .i64 0, .int .i64 1] 3)
  have hr10 := hr9.alloc (.cells #[.int .i64 0, .int .i64 1] 3)
  have hs10 := hs9.alloc (.cells #[.int .i64 0, .int .i64 1] 3)
  generalize w9.alloc (.cells #[.int .i64 0, .int .i64 1] 3) = w10 at *
  refine (SameI_c _ _ 2 2 _ _ _ _ w10 hs10 hF).mono ?_
  rintro e w11 ⟨rfl, q2, rfl⟩
  rw [show decide (([0, 1] : List Int) = [0, 1]) = true by decide]
  have hB11 := below_drewN hB10 q2
  have hr11 := hr10.drewN q2
  generalize w10.drewN q2 = w11 at *
  clear hF hB9 hB10 hr9 hr10 hs9 hs10
  go_wp2_with fail
  have hF := irow_lit w11 ex1 4 w11.heap.size rfl rfl (by decide) #[.int .i64 1, .int .i64 1, .int .i64 2, .int .i64 4] rfl 3 (wf_small _ _ (by decide))
  have hB12 := hB11.alloc hB11.size (.cells #[.int .i64 1, .int .i64 1, .int .i64 2, .int .i64 4] 3)
  have hr12 := hr11.alloc (.cells #[.int .i64 1, .int .i64 1, .int .i64 2, .int .i64 4] 3)
  generalize w11.alloc (.cells #[.int .i64 1, .int .i64 1, .int .i64 2, .int .i64 4] 3) = w12 at *
  refine (Cost_c _ _ 4 4 _ _ _ _ w12 hF hr12 (by decide) (by decide)).mono ?_
  rintro e w13 ⟨rfl, q3, rfl⟩
  rw [show cst ex1 [3, 3, 2, 1] (min 4 4) = 14 by decide +kernel]
  have hB13 := below_drewN hB12 q3
  have hr13 := hr12.drewN q3
  generalize w12.drewN q3 = w13 at *
  clear hF hB11 hB12 hr11 hr12
  go_wp2_with fail
  refine (Fit_c _ 4 _ _ w13 hr13).mono ?_
  rintro e w14 ⟨rfl, q4, rfl⟩
  rw [show fitB [3, 3, 2, 1] 4 = true by decide +kernel]
  have hB14 := below_drewN hB13 q4
  generalize w13.drewN q4 = w14 at *
  clear hB13 hr13
  go_wp2_with fail
  have hF := irow_lit w14 ex3 3 w14.heap.size rfl rfl (by decide) #[.int .i64 1, .int .i64 1, .int .i64 1] rfl 3 (wf_small _ _ (by decide))
  have hB15 := hB14.alloc hB14.size (.cells #[.int .i64 1, .int .i64 1, .int .i64 1] 3)
  generalize w14.alloc (.cells #[.int .i64 1, .int .i64 1, .int .i64 1] 3) = w15 at *
  refine (Fit_c _ 3 _ _ w15 hF).mono ?_
  rintro e w16 ⟨rfl, q5, rfl⟩
  rw [show fitB ex3 3 = false by decide +kernel]
  have hB16 := below_drewN hB15 q5
  go_wp2
  go_ret
  exact ⟨rfl, hB16⟩
end Go.Proofs.Ytfnjjeopojdnjaa
