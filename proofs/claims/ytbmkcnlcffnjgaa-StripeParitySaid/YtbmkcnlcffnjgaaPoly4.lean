/-
  THE CONTRACT OF poly.Mul. Rows are as great as memory lets them be.
-/
import Derived.Test.YtbmkcnlcffnjgaaPoly3
namespace Go.Proofs.Ytbmkcnlcffnjgaa
open Go.RowKit
set_option maxRecDepth 100000
set_option linter.unusedVariables false

theorem quiet_deg (A : Option Addr) (n c t q0 z : Nat) (l : List F) (w : World) (h : Row w A n l) (ht : tl l n = t) :
    Calls Try.prog 66 #[.slice A n c] (w.drewN (q0 + z)) fun e w' => e = .returned (.int .i64 ((t : Int) - 1)) ∧ ∃ m, w' = w.drewN (q0 + m) :=
  quiet_add_left (Degree_at A n c t l _ (h.drewN _) ht)
theorem quiet_deg0 (A : Option Addr) (n c t z : Nat) (l : List F) (w : World) (h : Row w A n l) (ht : tl l n = t) :
    Calls Try.prog 66 #[.slice A n c] (w.drewN z) fun e w' => e = .returned (.int .i64 ((t : Int) - 1)) ∧ ∃ m, w' = w.drewN m :=
  quiet_left (Degree_at A n c t l _ (h.drewN _) ht)
set_option maxHeartbeats 1000000 in
theorem Mul_poly (A B : Option Addr) (n m ca cb : Nat) (p q : List F) (w : World) (hp : Row w A n p) (hq : Row w B m q) (hca : n ≤ ca) (hcb : m ≤ cb) (hcam : ca ≤ maxLen) (hcbm : cb ≤ maxLen) (hn : n ≤ 70368744177664) (hm : m ≤ 70368744177664) :
    Calls Try.prog 59 #[.slice A n ca, .slice B m cb] w fun e w' => ∃ A' t c', e = .returned (.slice A' t c') ∧ w'.ownsRow w.heap.size 5 1 (.slice A' t c') t (cs (tr (pmul p q))) ∧ Below w.heap.size w w' := by
  obtain ⟨i0, hi, hz0, hz1, hz2⟩ := info_parts info_u8
  have hla := tl_le p n
  have hlb := tl_le q m
  obtain ⟨a, hta⟩ : ∃ a, tl p n = a := ⟨_, rfl⟩
  obtain ⟨b, htb⟩ : ∃ b, tl q m = b := ⟨_, rfl⟩
  have HA := Lib.hid hta
  have HB := Lib.hid htb
  rw [hta] at hla
  rw [htb] at hlb
  have hra : Row w A a (p.take a) := hp.take hla
  have hrb : Row w B b (q.take b) := hq.take hlb
  clear hta htb
  unfold maxLen at hcam hcbm
  have hpa : ∀ i, gt (p.take a) i = gt p i := fun i => by
    rw [gt_take]
    split
    · rfl
    · rw [tl_top hp.len i (by rw [HA.out]; omega)]
  have hqb : ∀ i, gt (q.take b) i = gt q i := fun i => by
    rw [gt_take]
    split
    · rfl
    · rw [tl_top hq.len i (by rw [HB.out]; omega)]
  by_cases ha0 : a = 0
  · have hnil : Hid (tr (pmul p q) = []) := (tr_nil_iff _).2 (pmul_none p q (.inl fun i => by rw [← hpa, ha0]; rfl))
    have hA1 : ((a : Int) == 0) = true := by rw [ha0]; rfl
    clear hpa hqb ha0
    go_enter Try.func59, Try.ntmps59
    go_wp2
    go_quiet ((first | (go_at_call 66; first | with_reducible exact quiet_deg0 A n ca a _ p _ hp HA.out | with_reducible exact quiet_deg0 B m cb b _ q _ hq HB.out | with_reducible exact quiet_deg A n ca a _ _ p _ hp HA.out | with_reducible exact quiet_deg B m cb b _ _ q _ hq HB.out)))
    go_wp2
    go_ret
    rw [hnil.out]
    exact ⟨none, 0, 0, rfl, World.ownsRow_nil _ _ _ _, below_drewN (Below.refl _ _) _⟩
  · by_cases hb0 : b = 0
    · have hnil : Hid (tr (pmul p q) = []) := (tr_nil_iff _).2 (pmul_none p q (.inr fun i => by rw [← hqb, hb0]; rfl))
      have hA1 : ((a : Int) == 0) = false := by rw [beq_eq_false_iff_ne]; omega
      have hB1 : ((b : Int) == 0) = true := by rw [hb0]; rfl
      clear hpa hqb ha0 hb0
      go_enter Try.func59, Try.ntmps59
      go_wp2
      go_quiet ((first | (go_at_call 66; first | with_reducible exact quiet_deg0 A n ca a _ p _ hp HA.out | with_reducible exact quiet_deg0 B m cb b _ q _ hq HB.out | with_reducible exact quiet_deg A n ca a _ _ p _ hp HA.out | with_reducible exact quiet_deg B m cb b _ _ q _ hq HB.out)))
      go_wp2
      go_ret
      rw [hnil.out]
      exact ⟨none, 0, 0, rfl, World.ownsRow_nil _ _ _ _, below_drewN (Below.refl _ _) _⟩
    · have hA1 : ((a : Int) == 0) = false := by rw [beq_eq_false_iff_ne]; omega
      have hB1 : ((b : Int) == 0) = false := by rw [beq_eq_false_iff_ne]; omega
      obtain ⟨N, hN1, hN2⟩ : ∃ N, a + b ≤ N + 1 ∧ N + 1 ≤ a + b := ⟨a + b - 1, by omega, by omega⟩
      have hab : 1 ≤ a ∧ 1 ≤ b := by omega
      have HP := Lib.hid hpa
      have HQ := Lib.hid hqb
      clear ha0 hb0 hpa hqb
      obtain ⟨ha1, hb1⟩ := hab
      go_enter Try.func59, Try.ntmps59
      go_wp2
      go_quiet ((first | (go_at_call 66; first | with_reducible exact quiet_deg0 A n ca a _ p _ hp HA.out | with_reducible exact quiet_deg0 B m cb b _ q _ hq HB.out | with_reducible exact quiet_deg A n ca a _ _ p _ hp HA.out | with_reducible exact quiet_deg B m cb b _ _ q _ hq HB.out)))
      go_wp2_with (at_make; refine wpList_make_full _ rfl _ _ 22 rfl w.heap.size 5 i0 (.int .u8 0) 1 Try.underlying22 hi hz0 hz1 _ _ _ _ N rfl rfl (by omega) (by omega) (by rw [hz2]; omega) (by unfold maxLen; omega) (Nat.le_refl _) ?_; intro w0 hown0 hgrow0)
      go_wp2
      go_loopw [35] (fun i wr => ∃ (k : Nat) (s : List F), k ≤ a ∧ i = .int .i64 k ∧ wr.ownsRow w.heap.size 5 1 (.slice (some ⟨w.heap.size, 0, none⟩) N N) N (cs s) ∧ Below w.heap.size w wr ∧ Hid (∀ r, gt s r = gt (pmul ((p.take a).take k) (q.take b)) r)) (fun i _ => a - (intOf i).toNat)
      case atStart =>
        have h : madeCells (Value.int .u8 0).cells (N * 1) = madeCells #[.int .u8 0] N := by rw [Nat.mul_one]; rfl
        rw [h, toList_madeCells_one, ← cs_replicate] at hown0
        refine ⟨0, _, by omega, rfl, hown0, (below_drewN (Below.refl _ _) _).grown hgrow0 (Nat.le_refl _) (fun k h => by cases h), fun r => ?_⟩
        rw [gt_replicate, List.take_zero]
        rfl
      case round =>
        clear hown0 hgrow0
        obtain ⟨k, s, hk, rfl, hown, hbel, hg⟩ := hrel
        by_cases hlt : k < a
        · obtain ⟨b1, o1, rfl, l1, h1⟩ := hra.at_ hlt
          replace h1 := (hbel.cell (p := ⟨b1, o1 + k, none⟩) l1).trans h1
          obtain ⟨b2, o2, rfl, l2, _⟩ := hrb.at_ (k := 0) (by omega)
          have hkN : k < N := by omega
          have hrb1 := hrb.below hbel
          have hne : ∀ z, (some (⟨b2, o2, none⟩ : Addr)) = some z → z.block ≠ w.heap.size := fun z e => by injection e with e; subst e; exact fun e => by simp at e; omega
          have HNE := Lib.hid hne
          clear hne
          go_wp2_with (go_at_call 68; refine (addTimes_c w.heap.size w.heap.size k (N - k) (N - k) N N _ b cb s (q.take b) _ _ hown hrb1 HNE.out (by omega) (by omega) (by omega)).mono ?_; rintro e w5 ⟨rfl, ⟨s', hown', hs'⟩, hgr⟩; have HS := Lib.hid hs'; clear hs')
          go_roundw
          case rel =>
            refine ⟨k + 1, s', by omega, by go_num, hown', hbel.grown hgr hbel.size (fun g e => by injection e with e; omega), fun r => ?_⟩
            rw [HS.out, hg.out, pmul_step]
            refine congrArg (HAdd.hAdd _) ?_
            by_cases h3 : k ≤ r
            · rw [if_pos h3]
              by_cases h4 : r < k + b
              · rw [if_pos ⟨h3, h4⟩, mul_comm]
              · rw [if_neg (by omega), gt_ge (l := q.take b) (by simp; omega), mul_zero]
            · rw [if_neg h3, if_neg (by omega)]
          case measure => simp [intOf]; omega
        · obtain rfl : k = a := by omega
          have hl := own_len hown
          have hfin : Hid (tr (pmul p q) = s) := by
            have hs : ∀ r, gt s r = gt (pmul p q) r := fun r => by
              rw [hg.out, List.take_take, Nat.min_self]
              exact pmul_ext HP.out HQ.out r
            have e1 : tr (pmul p q) = tr s := (tr_ext hs).symm
            unfold Hid
            rw [e1]
            refine tr_of_last (.inr ?_)
            have hpt : ∀ i, k - 1 < i → gt p i = 0 := fun i hi => tl_top hp.len i (by rw [HA.out]; omega)
            have hqt : ∀ i, b - 1 < i → gt q i = 0 := fun i hi => tl_top hq.len i (by rw [HB.out]; omega)
            rw [hs, hl, show N - 1 = (k - 1) + (b - 1) by omega, pmul_top p q _ _ hpt hqt]
            intro e
            have p1 := tl_last p n (by rw [HA.out]; omega)
            have q1 := tl_last q m (by rw [HB.out]; omega)
            rw [HA.out] at p1
            rw [HB.out] at q1
            rcases mul_eq_zero.1 e with h | h
            · exact p1 h
            · exact q1 h
          clear hl
          go_wp2
          go_ret
          rw [hfin.out]
          exact ⟨_, N, N, rfl, hown, hbel⟩
end Go.Proofs.Ytbmkcnlcffnjgaa
