/-
  LAW 02's WALK: PolyRules: it returns true, and writes nothing that was there. No conditions.
-/
import Derived.Test.YtpghcclgphjflaaLaw02b
namespace Go.Proofs.Ytpghcclgphjflaa
open Go.RowKit
set_option linter.unusedVariables false

theorem tr_pmul_len {p q : List F} {n m a b : Nat} (hp : p.length = n) (hq : q.length = m) (ha : tl p n = a) (hb : tl q m = b) (ha1 : 1 ≤ a) (hb1 : 1 ≤ b) : (tr (pmul p q)).length = a - 1 + (b - 1) + 1 := by
  have hpt : ∀ i, a - 1 < i → gt p i = 0 := fun i hi => tl_top hp i (by omega)
  have hqt : ∀ i, b - 1 < i → gt q i = 0 := fun i hi => tl_top hq i (by omega)
  have p1 := tl_last p n (by omega)
  have q1 := tl_last q m (by omega)
  rw [ha] at p1
  rw [hb] at q1
  have h1 := pmul_top p q _ _ hpt hqt
  apply Nat.le_antisymm
  · rw [tr_length]
    exact tl_le_of _ _ _ fun i hi => pmul_ge p q _ _ hpt hqt i (by omega)
  · rcases Nat.lt_or_ge (a - 1 + (b - 1)) (tr (pmul p q)).length with h | h
    · exact h
    · exfalso
      rw [← gt_tr, gt_ge h] at h1
      rcases mul_eq_zero.1 h1.symm with h2 | h2
      · exact p1 h2
      · exact q1 h2
theorem tl_tr (l : List F) : tl (tr l) (tr l).length = (tr l).length := by
  have h := tr_length (tr l)
  rw [tr_tr] at h
  exact h.symm
theorem padd_self (p : List F) : tr (padd p p) = [] := (tr_nil_iff _).2 fun i => by rw [gt_padd, add_self]
theorem tr_padd_le (p q : List F) {n m a b : Nat} (hp : p.length = n) (hq : q.length = m) (ha : tl p n = a) (hb : tl q m = b) : (tr (padd p q)).length ≤ a ∨ (tr (padd p q)).length ≤ b := by
  rcases Nat.le_total a b with h | h
  · right
    rw [tr_length]
    exact tl_le_of _ _ _ fun i hi => by rw [gt_padd, tl_top hp i (by omega), tl_top hq i (by omega), add_zero]
  · left
    rw [tr_length]
    exact tl_le_of _ _ _ fun i hi => by rw [gt_padd, tl_top hp i (by omega), tl_top hq i (by omega), add_zero]
/-- what the law goes by, in whatever world: both rows, the product, the sum -/
structure Pr (w0 : World) (A B M S : Option Addr) (n m ca cb mn cm sn : Nat) (p q : List F) (W : World) : Prop where
  rp : RowIn W A n ca p
  rq : RowIn W B m cb q
  rm : RowIn W M mn cm (tr (pmul p q))
  rs : Row W S sn (tr (padd p q))
  bel : Below w0.heap.size w0 W
section
variable {w0 W W' : World} {A B M S : Option Addr} {n m ca cb mn cm sn : Nat} {p q : List F}
theorem Pr.drewN (h : Pr w0 A B M S n m ca cb mn cm sn p q W) (k : Nat) : Pr w0 A B M S n m ca cb mn cm sn p q (W.drewN k) := ⟨h.rp.drewN k, h.rq.drewN k, h.rm.drewN k, h.rs.drewN k, below_drewN h.bel k⟩
theorem Pr.step (h : Pr w0 A B M S n m ca cb mn cm sn p q W) (hb : Below W.heap.size W W') : Pr w0 A B M S n m ca cb mn cm sn p q W' := ⟨h.rp.below hb, h.rq.below hb, h.rm.below hb, h.rs.below hb, h.bel.trans (hb.mono h.bel.size)⟩
end

set_option maxHeartbeats 2000000 in
theorem rules_small (A B : Option Addr) (n m ca cb : Nat) (p q : List F) (x : F) (w : World) (hp : RowIn w A n ca p) (hq : RowIn w B m cb q) (hn : n ≤ 40) (hm : m ≤ 40) :
    Calls Try.prog 12 #[.slice A n ca, .slice B m cb, .int .u8 x.n] w fun e w' => e = .returned (.bool true) ∧ Below w.heap.size w w' := by
  obtain ⟨a, hta⟩ : ∃ a, tl p n = a := ⟨_, rfl⟩
  obtain ⟨b, htb⟩ : ∃ b, tl q m = b := ⟨_, rfl⟩
  have hla := tl_le p n
  have hlb := tl_le q m
  have HA := Lib.hid hta
  have HB := Lib.hid htb
  rw [hta] at hla
  rw [htb] at hlb
  clear hta htb
  go_enter Try.func12, Try.ntmps12
  go_wp2_with (go_at_call 27; refine (alive02_c _).mono ?_; rintro e w1 ⟨rfl, hb1⟩)
  have hp1 := hp.below hb1
  have hq1 := hq.below hb1
  refine (Mul_poly A B n m ca cb p q w1 hp1.row hq1.row hp1.le hq1.le hp1.max hq1.max (by omega) (by omega)).mono ?_
  rintro e w2 ⟨M, mn, cm, rfl, hown2, hb2⟩
  have hM2 := own_in hown2
  have hmn := Lib.hid (own_eq hown2)
  have hp2 := hp1.below hb2
  have hq2 := hq1.below hb2
  have hB2 := hb1.trans (hb2.mono hb1.size)
  clear hown2 hb2 hb1 hp hq hp1 hq1
  go_wp2_with fail
  refine (Add_poly A B n m ca cb p q w2 hp2.row hq2.row (by omega) (by omega)).mono ?_
  rintro e w3 ⟨S, sn, cs3, rfl, hown3, hb3⟩
  have hsn := Lib.hid (own_eq hown3)
  have S3 : Pr w A B M S n m ca cb mn cm sn p q w3 := ⟨hp2.below hb3, hq2.below hb3, hM2.below hb3, Row.of_own hown3, hB2.trans (hb3.mono hB2.size)⟩
  clear hown3 hb3 hB2 hM2 hp2 hq2
  go_wp2_with fail
  refine (Eval_c A n ca p x w3 S3.rp.row).mono ?_
  rintro e _ ⟨rfl, k3, rfl⟩
  have S4 := S3.drewN k3
  clear S3
  generalize w3.drewN k3 = w4 at *
  go_wp2_with fail
  refine (Eval_c B m cb q x w4 S4.rq.row).mono ?_
  rintro e _ ⟨rfl, k4, rfl⟩
  have S5 := S4.drewN k4
  clear S4
  generalize w4.drewN k4 = w5 at *
  have he5 := Eval_c S sn cs3 _ x w5 S5.rs
  rw [ev_tr, ev_padd] at he5
  have H5 := Lib.hid he5
  clear he5
  have hbx := bits_xor (ev p x) (ev q x)
  go_wp2_with fail
  refine H5.out.mono ?_
  rintro e _ ⟨rfl, k5, rfl⟩
  have S6 := S5.drewN k5
  clear S5 H5
  generalize w5.drewN k5 = w6 at *
  go_wp2_with fail
  have h6 := Add_poly A A n n ca ca p p w6 S6.rp.row S6.rp.row (by omega) (by omega)
  rw [padd_self] at h6
  refine h6.mono ?_
  clear h6
  rintro e w7 ⟨A7, t7, c7, rfl, hown7, hb7⟩
  obtain rfl : t7 = 0 := by have := own_eq hown7; simpa using this
  have S7 := S6.step hb7
  clear hown7 hb7 S6
  have hds : tl (tr (padd p q)) sn = sn := by
    have h := tl_tr (padd p q)
    rw [← hsn.out] at h
    exact h
  have hsab : sn ≤ a ∨ sn ≤ b := by
    rw [hsn.out]
    exact tr_padd_le p q S7.rp.row.len S7.rq.row.len HA.out HB.out
  have HDS := Lib.hid hds
  clear hds
  have hle : (sn : Int) - 1 ≤ if a < b then (b : Int) - 1 else (a : Int) - 1 := by
    split <;> omega
  clear hsab
  have hbelf := S7.bel
  by_cases ha0 : a = 0
  · have hmz : ((mn : Int) == 0) = true := by
      have h : tr (pmul p q) = [] := (tr_nil_iff _).2 (pmul_none p q (.inl fun i => tl_top S7.rp.row.len i (by rw [HA.out]; omega)))
      have h2 := hmn.out
      rw [h] at h2
      rw [h2]; rfl
    have ha1 : (a : Int) < 1 := by omega
    clear ha0
    go_wp2_with (first
      | (go_at_call 31; (with_reducible refine (Degree_at S sn cs3 sn _ _ S7.rs HDS.out).mono ?_); rintro e w' ⟨rfl, rfl⟩)
      | (go_at_call 31; (with_reducible refine (Degree_at A n ca a p _ S7.rp.row HA.out).mono ?_); rintro e w' ⟨rfl, rfl⟩)
      | (go_at_call 31; (with_reducible refine (Degree_at B m cb b q _ S7.rq.row HB.out).mono ?_); rintro e w' ⟨rfl, rfl⟩))
    all_goals go_ret
    all_goals exact ⟨rfl, hbelf⟩
  · by_cases hb0 : b = 0
    · have hmz : ((mn : Int) == 0) = true := by
        have h : tr (pmul p q) = [] := (tr_nil_iff _).2 (pmul_none p q (.inr fun i => tl_top S7.rq.row.len i (by rw [HB.out]; omega)))
        have h2 := hmn.out
        rw [h] at h2
        rw [h2]; rfl
      have ha1 : (1 : Int) ≤ (a : Int) := by omega
      have hb1 : (b : Int) < 1 := by omega
      clear ha0 hb0
      go_wp2_with (first
      | (go_at_call 31; (with_reducible refine (Degree_at S sn cs3 sn _ _ S7.rs HDS.out).mono ?_); rintro e w' ⟨rfl, rfl⟩)
      | (go_at_call 31; (with_reducible refine (Degree_at A n ca a p _ S7.rp.row HA.out).mono ?_); rintro e w' ⟨rfl, rfl⟩)
      | (go_at_call 31; (with_reducible refine (Degree_at B m cb b q _ S7.rq.row HB.out).mono ?_); rintro e w' ⟨rfl, rfl⟩))
      all_goals go_ret
      all_goals exact ⟨rfl, hbelf⟩
    · have ha1 : (1 : Int) ≤ (a : Int) := by omega
      have hb1 : (1 : Int) ≤ (b : Int) := by omega
      have hml : Hid (mn = a - 1 + (b - 1) + 1) := by
        unfold Hid
        rw [hmn.out]
        exact tr_pmul_len S7.rp.row.len S7.rq.row.len HA.out HB.out (by omega) (by omega)
      clear ha0 hb0 hbelf
      go_wp2_with (first
      | (go_at_call 31; (with_reducible refine (Degree_at S sn cs3 sn _ _ S7.rs HDS.out).mono ?_); rintro e w' ⟨rfl, rfl⟩)
      | (go_at_call 31; (with_reducible refine (Degree_at A n ca a p _ S7.rp.row HA.out).mono ?_); rintro e w' ⟨rfl, rfl⟩)
      | (go_at_call 31; (with_reducible refine (Degree_at B m cb b q _ S7.rq.row HB.out).mono ?_); rintro e w' ⟨rfl, rfl⟩))
      all_goals
        have hq0 : tr q ≠ [] := fun e => by
          have h := tr_length q
          rw [e, S7.rq.row.len, HB.out] at h
          simp at h
          omega
        have hmn2 := hml.out
        refine (DivMod_ok M B mn m cm cb _ q w7 S7.rm S7.rq (by omega) hq0).mono ?_
        rintro e w8 ⟨U, u, cu, ul, R, r, cr, rl, rfl, hU, hR, hdiv, hb8⟩
        have hun := hdiv.unique (u' := tr p) (r' := []) ⟨fun i => by rw [gt_tr, gt_nil, add_zero]; exact pmul_ext (fun j => (gt_tr p j).symm) (fun _ => rfl) i, List.length_pos_iff.2 hq0, tr_tr p, rfl⟩
        obtain ⟨rfl, rfl⟩ := hun
        obtain rfl : r = 0 := by have := hR.row.len; simpa using this.symm
        have S8 := S7.step hb8
        have hua : u = a := by
          have h := hU.row.len
          rw [tr_length, S8.rp.row.len, HA.out] at h
          exact h.symm
        subst hua
        have hdm : tl (tr (pmul p q)) mn = mn := by
          have h := tl_tr (pmul p q)
          rw [← hmn.out] at h
          exact h
        have HDM := Lib.hid hdm
        have hnum : (((mn : Int) - 1) == ((u : Int) - 1 + ((b : Int) - 1))) = true := by rw [beq_iff_eq]; omega
        have hev := Eval_c M mn cm _ x w8 S8.rm.row
        clear hdiv hb8 S7 hdm hR hq0 hmn2
        go_wp2_with (go_at_call 31; refine (Degree_at M mn cm mn _ _ S8.rm.row HDM.out).mono ?_; rintro e w' ⟨rfl, rfl⟩)
        have h9 := Trim_c A n ca p w8 S8.rp.row S8.rp.le S8.rp.max (by omega)
        rw [HA.out] at h9
        clear hev
        refine h9.mono ?_
        clear h9
        rintro e w9 ⟨T, tc, rfl, hown9, hb9⟩
        have S9 := S8.step hb9
        have hU9 := hU.row.below hb9
        have hT9 := Row.of_own hown9
        clear hown9 hb9 S8 hU
        go_wp2_with fail
        refine (Same_c U T u cu tc _ _ w9 hU9 hT9 rfl).mono ?_
        rintro e _ ⟨rfl, k9, rfl⟩
        have S10 := S9.drewN k9
        clear S9 hU9 hT9
        generalize w9.drewN k9 = w10 at *
        have he10 := Eval_c M mn cm _ x w10 S10.rm.row
        rw [ev_tr, ev_pmul] at he10
        have H10 := Lib.hid he10
        have hbel10 := S10.bel
        clear he10 S10
        have hpz := n_beq (ev p x)
        have hqz := n_beq (ev q x)
        have hmz := n_beq (ev p x * ev q x)
        by_cases hp0 : ev p x = 0
        · rw [decide_eq_true (by rw [hp0, zero_mul])] at hmz
          rw [decide_eq_true hp0] at hpz
          clear hp0 hqz
          go_wp2_with (go_at_call 36; refine H10.out.mono ?_; rintro e w' ⟨rfl, k10, rfl⟩)
          go_ret
          exact ⟨rfl, below_drewN hbel10 k10⟩
        · by_cases hq0 : ev q x = 0
          · rw [decide_eq_true (by rw [hq0, mul_zero])] at hmz
            rw [decide_eq_false hp0] at hpz
            rw [decide_eq_true hq0] at hqz
            clear hp0 hq0
            go_wp2_with (go_at_call 36; refine H10.out.mono ?_; rintro e w' ⟨rfl, k10, rfl⟩)
            go_ret
            exact ⟨rfl, below_drewN hbel10 k10⟩
          · rw [decide_eq_false (fun e => (mul_eq_zero.1 e).elim hp0 hq0)] at hmz
            rw [decide_eq_false hp0] at hpz
            rw [decide_eq_false hq0] at hqz
            clear hp0 hq0
            go_wp2_with (go_at_call 36; refine H10.out.mono ?_; rintro e w' ⟨rfl, k10, rfl⟩)
            go_ret
            exact ⟨rfl, below_drewN hbel10 k10⟩
set_option maxHeartbeats 1000000 in
theorem rules_great (A B : Option Addr) (n m ca cb : Nat) (x : F) (w : World) (h : 40 < n ∨ (n ≤ 40 ∧ 40 < m)) (hn : n ≤ 9223372036854775807) (hm : m ≤ 9223372036854775807) :
    Calls Try.prog 12 #[.slice A n ca, .slice B m cb, .int .u8 x.n] w fun e w' => e = .returned (.bool true) ∧ Below w.heap.size w w' := by
  rcases h with h | ⟨h, h2⟩
  all_goals
    go_enter Try.func12, Try.ntmps12
    go_wp2_with (go_at_call 27; refine (alive02_c _).mono ?_; rintro e w1 ⟨rfl, hb1⟩)
    go_ret
    exact ⟨rfl, hb1⟩
theorem walk_PolyRules (w : World) (A : Option Addr) (n ca : Nat) (p : List F) (hp : RowIn w A n ca p) (B : Option Addr) (m cb : Nat) (q : List F) (hq : RowIn w B m cb q) (x : F) :
    Calls Try.prog 12 #[.slice A n ca, .slice B m cb, .int .u8 x.n] w fun e w' => e = .returned (.bool true) ∧ Below w.heap.size w w' := by
  by_cases hn : n ≤ 40
  · by_cases hm : m ≤ 40
    · exact rules_small A B n m ca cb p q x w hp hq hn hm
    · exact rules_great A B n m ca cb x w (.inr ⟨hn, by omega⟩) hp.row.max hq.row.max
  · exact rules_great A B n m ca cb x w (.inl (by omega)) hp.row.max hq.row.max
end Go.Proofs.Ytpghcclgphjflaa
