/-
  LAW 02's WALK: PolyTwo: it returns true, and writes nothing that was there. No conditions.
-/
import Derived.Test.YtpghcclgphjflaaLaw02
namespace Go.Proofs.Ytpghcclgphjflaa
open Go.RowKit
set_option linter.unusedVariables false

/-- what the law goes by, in whatever world: both rows, and the first one trimmed -/
structure Pq (w0 : World) (A B T : Option Addr) (n m ca cb a : Nat) (p q : List F) (W : World) : Prop where
  rp : RowIn W A n ca p
  rq : RowIn W B m cb q
  rt : Row W T a (tr p)
  bel : Below w0.heap.size w0 W
section
variable {w0 W W' : World} {A B T : Option Addr} {n m ca cb a : Nat} {p q : List F}
theorem Pq.drewN (h : Pq w0 A B T n m ca cb a p q W) (k : Nat) : Pq w0 A B T n m ca cb a p q (W.drewN k) := ⟨h.rp.drewN k, h.rq.drewN k, h.rt.drewN k, below_drewN h.bel k⟩
theorem Pq.step (h : Pq w0 A B T n m ca cb a p q W) (hb : Below W.heap.size W W') : Pq w0 A B T n m ca cb a p q W' := ⟨h.rp.below hb, h.rq.below hb, h.rt.below hb, h.bel.trans (hb.mono h.bel.size)⟩
end
/-- a quotient is no longer than what was divided -/
theorem div_len {p q u r : List F} (h : IsDiv p q u r) : u.length ≤ p.length := by
  by_cases hu : u = []
  · subst hu; exact Nat.zero_le _
  · have hq : tr q ≠ [] := fun e => by have := h.lt; rw [e] at this; simp at this
    have hq1 := tr_last hq
    have hql := List.length_pos_iff.2 hq
    have hul := List.length_pos_iff.2 hu
    have hu0 : tr u ≠ [] := by rw [h.tu]; exact hu
    have hu1 := tr_last hu0
    rw [h.tu] at hu1
    have hqt : ∀ i, (tr q).length - 1 < i → gt q i = 0 := fun i hi => by rw [← gt_tr]; exact gt_ge (by omega)
    have hut : ∀ i, u.length - 1 < i → gt u i = 0 := fun i hi => gt_ge (by omega)
    have h1 := pmul_top u q _ _ hut hqt
    have h2 := h.eq (u.length - 1 + ((tr q).length - 1))
    rw [h1, gt_ge (l := r) (by have := h.lt; omega), add_zero] at h2
    rcases Nat.lt_or_ge (u.length - 1 + ((tr q).length - 1)) p.length with h3 | h3
    · omega
    · rw [gt_ge h3] at h2
      rcases mul_eq_zero.1 h2.symm with h4 | h4
      · exact absurd h4 hu1
      · exact absurd h4 hq1
theorem own_eq {w : World} {base n c : Nat} {e : TypeId} {A : Option Addr} {l : List F} (h : w.ownsRow base e 1 (.slice A n c) n (cs l)) : n = l.length := (own_len h).symm

set_option maxHeartbeats 2000000 in
theorem two_small (A B : Option Addr) (n m ca cb : Nat) (p q : List F) (x : F) (w : World) (hp : RowIn w A n ca p) (hq : RowIn w B m cb q) (hn : n ≤ 60) (hm : m ≤ 60) :
    Calls Try.prog 9 #[.slice A n ca, .slice B m cb, .int .u8 x.n] w fun e w' => e = .returned (.bool true) ∧ Below w.heap.size w w' := by
  obtain ⟨a, hta⟩ : ∃ a, tl p n = a := ⟨_, rfl⟩
  have hla := tl_le p n
  have HA := Lib.hid hta
  rw [hta] at hla
  clear hta
  go_enter Try.func9, Try.ntmps9
  go_wp2_with (go_at_call 27; refine (alive02_c _).mono ?_; rintro e w1 ⟨rfl, hb1⟩)
  have h1 := RefTrim_c A n ca p w1 (hp.below hb1) (by omega)
  rw [HA.out] at h1
  refine h1.mono ?_
  clear h1
  rintro e w2 ⟨T, c1, rfl, hown2, hb2⟩
  have S2 : Pq w A B T n m ca cb a p q w2 := ⟨(hp.below hb1).below hb2, (hq.below hb1).below hb2, Row.of_own hown2, hb1.trans (hb2.mono hb1.size)⟩
  clear hown2 hb2 hb1 hp hq
  go_wp2_with fail
  have h1 := Trim_c A n ca p w2 S2.rp.row S2.rp.le S2.rp.max (by omega)
  rw [HA.out] at h1
  refine h1.mono ?_
  clear h1
  rintro e w3 ⟨T3, c3, rfl, hown3, hb3⟩
  have S3 := S2.step hb3
  have hr3 := Row.of_own hown3
  clear hown3 hb3 S2
  go_wp2_with fail
  refine (Same_c T3 T a c3 c1 _ _ w3 hr3 S3.rt rfl).mono ?_
  rintro e _ ⟨rfl, k3, rfl⟩
  have S4 := S3.drewN k3
  clear S3 hr3
  generalize w3.drewN k3 = w4 at *
  go_wp2_with (go_at_call 31; refine (Degree_at A n ca a p _ S4.rp.row HA.out).mono ?_; rintro e w' ⟨rfl, rfl⟩)
  refine (Add_poly A B n m ca cb p q w4 S4.rp.row S4.rq.row (by omega) (by omega)).mono ?_
  rintro e w5 ⟨A5, t5, c5, rfl, hown5, hb5⟩
  have S5 := S4.step hb5
  have hr5 := Row.of_own hown5
  have e5 := Lib.hid (own_eq hown5)
  clear hown5 hb5 S4
  go_wp2_with fail
  refine (RefAdd_c A B n m ca cb p q w5 S5.rp.row S5.rq.row (by omega) (by omega)).mono ?_
  rintro e w6 ⟨A6, t6, c6, rfl, hown6, hb6⟩
  have S6 := S5.step hb6
  have hr6 := Row.of_own hown6
  obtain rfl : t6 = t5 := by rw [own_eq hown6, e5.out]
  have hr5' := hr5.below hb6
  clear hown6 hb6 S5 hr5 e5
  go_wp2_with fail
  refine (Same_c A5 A6 t6 c5 c6 _ _ w6 hr5' hr6 rfl).mono ?_
  rintro e _ ⟨rfl, k6, rfl⟩
  have S7 := S6.drewN k6
  clear S6 hr5' hr6
  generalize w6.drewN k6 = w7 at *
  go_wp2_with fail
  refine (Mul_poly A B n m ca cb p q w7 S7.rp.row S7.rq.row S7.rp.le S7.rq.le S7.rp.max S7.rq.max (by omega) (by omega)).mono ?_
  rintro e w8 ⟨A8, t8, c8, rfl, hown8, hb8⟩
  have S8 := S7.step hb8
  have hr8 := Row.of_own hown8
  have e8 := Lib.hid (own_eq hown8)
  clear hown8 hb8 S7
  go_wp2_with fail
  refine (RefMul_p A B n m ca cb p q w8 S8.rp.row S8.rq.row (by omega) (by omega)).mono ?_
  rintro e w9 ⟨A9, t9, c9, rfl, hown9, hb9⟩
  have S9 := S8.step hb9
  have hr9 := Row.of_own hown9
  obtain rfl : t9 = t8 := by rw [own_eq hown9, e8.out]
  have hr8' := hr8.below hb9
  clear hown9 hb9 S8 hr8 e8
  go_wp2_with fail
  refine (Same_c A8 A9 t9 c8 c9 _ _ w9 hr8' hr9 rfl).mono ?_
  rintro e _ ⟨rfl, k9, rfl⟩
  have S10 := S9.drewN k9
  clear S9 hr8' hr9
  generalize w9.drewN k9 = w10 at *
  go_wp2_with fail
  refine (Eval_c A n ca p x w10 S10.rp.row).mono ?_
  rintro e _ ⟨rfl, k10, rfl⟩
  have S11 := S10.drewN k10
  clear S10
  generalize w10.drewN k10 = w11 at *
  go_wp2_with (go_at_call 37; refine (RefEval_c A n ca p x _ S11.rp.row).mono ?_; rintro e w' ⟨rfl, rfl⟩)
  by_cases hq0 : tr q = []
  · have HQ := Lib.hid hq0
    clear hq0
    refine (DivMod_none A B n m ca cb p q w11 S11.rp S11.rq HQ.out).mono ?_
    rintro e _ ⟨rfl, rfl⟩
    have hz : tl q m = 0 := by
      have := tr_length q
      rw [HQ.out, S11.rq.row.len] at this
      exact this.symm
    have h1 := RefTrim_c B m cb q w11 S11.rq (by omega)
    rw [hz] at h1
    have H1 := Lib.hid h1
    clear h1 hz
    go_wp2_with fail
    refine H1.out.mono ?_
    rintro e w12 ⟨D, cd, rfl, hown12, hb12⟩
    have hfin := (S11.step hb12).bel
    clear hown12 hb12 S11 H1
    go_wp2
    go_ret
    exact ⟨rfl, hfin⟩
  · have HQ := Lib.hid hq0
    clear hq0
    refine (DivMod_ok A B n m ca cb p q w11 S11.rp S11.rq (by omega) HQ.out).mono ?_
    rintro e w12 ⟨U, u, cu, ul, R, r, cr, rl, rfl, hU, hR, hdiv, hb12⟩
    have S12 := S11.step hb12
    have HDV := Lib.hid hdiv
    have hub : u ≤ 2000 ∧ r < tl q m := by
      constructor
      · have := div_len hdiv
        rw [hU.row.len, S12.rp.row.len] at this
        omega
      · have := hdiv.lt
        rw [hR.row.len, tr_length, S12.rq.row.len] at this
        exact this
    clear hdiv hb12 S11
    obtain ⟨b, htb⟩ : ∃ b, tl q m = b := ⟨_, rfl⟩
    have hbm := tl_le q m
    have h1 := RefTrim_c B m cb q w12 S12.rq (by omega)
    rw [htb] at h1 hub hbm
    obtain ⟨hu1, hrb⟩ := hub
    have H1 := Lib.hid h1
    have hb0 : ((b : Int) == 0) = false := by rw [beq_eq_false_iff_ne]; omega
    have HB := Lib.hid htb
    clear h1 htb
    go_wp2_with fail
    refine H1.out.mono ?_
    rintro e w13 ⟨D, cd, rfl, hown13, hb13⟩
    have S13 := S12.step hb13
    have hU13 := hU.below hb13
    have hR13 := hR.below hb13
    have hD13 := Row.of_own hown13
    clear hown13 hb13 S12 H1 hU hR
    go_wp2_with fail
    refine (RefMul_p U D u b cu cd ul (tr q) w13 hU13.row hD13 (by omega) (by omega)).mono ?_
    rintro e w14 ⟨M, mn, cm, rfl, hown14, hb14⟩
    have S14 := S13.step hb14
    have hU14 := hU13.below hb14
    have hR14 := hR13.below hb14
    have hM14 := Row.of_own hown14
    have hmn : mn ≤ 2100 := by
      have h := tr_le (pmul ul (tr q))
      have h2 := pmul_length_le ul (tr q)
      have h3 := own_eq hown14
      have h4 := hU13.row.len
      have h5 := hD13.len
      omega
    clear hown14 hb14 S13 hU13 hR13 hD13
    go_wp2_with fail
    refine (RefAdd_c M R mn r cm cr _ rl w14 hM14 hR14.row (by omega) (by omega)).mono ?_
    rintro e w15 ⟨K, kn, ck, rfl, hown15, hb15⟩
    have S15 := S14.step hb15
    have hU15 := hU14.below hb15
    have hR15 := hR14.below hb15
    have hK15 := Row.of_own hown15
    have hback : tr (padd (tr (pmul ul (tr q))) rl) = tr p := tr_ext fun i => by
      rw [gt_padd, gt_tr, HDV.out.eq i]
      congr 1
      exact pmul_ext (fun _ => rfl) (gt_tr q) i
    obtain rfl : kn = a := by
      rw [own_eq hown15, hback, S15.rt.len]
    have HBK := Lib.hid hback
    have hrb2 : (r : Int) < (b : Int) := by omega
    clear hown15 hb15 S14 hU14 hR14 hM14 hback
    go_wp2_with fail
    refine (Same_c K T kn ck c1 _ _ w15 hK15 S15.rt HBK.out).mono ?_
    rintro e _ ⟨rfl, k15, rfl⟩
    have S16 := S15.drewN k15
    have hU16 := hU15.drewN k15
    have hR16 := hR15.drewN k15
    clear S15 hU15 hR15 hK15
    generalize w15.drewN k15 = w16 at *
    have htu : tl ul u = u := by
      have h := tr_length ul
      rw [HDV.out.tu, hU16.row.len] at h
      exact h.symm
    have htr : tl rl r = r := by
      have h := tr_length rl
      rw [HDV.out.ts, hR16.row.len] at h
      exact h.symm
    have h1 := RefTrim_c U u cu ul w16 hU16 (by omega)
    rw [htu] at h1
    have H1 := Lib.hid h1
    have HTR := Lib.hid htr
    clear h1 htu htr
    go_wp2_with fail
    refine H1.out.mono ?_
    rintro e w17 ⟨U2, cu2, rfl, hown17, hb17⟩
    have S17 := S16.step hb17
    have hU17 := hU16.below hb17
    have hR17 := hR16.below hb17
    have hV17 := Row.of_own hown17
    clear hown17 hb17 S16 hU16 hR16 H1
    go_wp2_with fail
    refine (Same_c U2 U u cu2 cu _ _ w17 hV17 hU17.row HDV.out.tu).mono ?_
    rintro e _ ⟨rfl, k17, rfl⟩
    have S18 := S17.drewN k17
    have hR18 := hR17.drewN k17
    clear S17 hU17 hR17 hV17
    generalize w17.drewN k17 = w18 at *
    have h1 := RefTrim_c R r cr rl w18 hR18 (by omega)
    rw [HTR.out] at h1
    have H1 := Lib.hid h1
    clear h1
    go_wp2_with fail
    refine H1.out.mono ?_
    rintro e w19 ⟨R2, cr2, rfl, hown19, hb19⟩
    have S19 := S18.step hb19
    have hR19 := hR18.below hb19
    have hV19 := Row.of_own hown19
    clear hown19 hb19 S18 hR18 H1
    go_wp2_with fail
    refine (Same_c R2 R r cr2 cr _ _ w19 hV19 hR19.row HDV.out.ts).mono ?_
    rintro e _ ⟨rfl, k19, rfl⟩
    have hfin := below_drewN S19.bel k19
    clear S19 hR19 hV19
    go_wp2
    go_ret
    exact ⟨rfl, hfin⟩
set_option maxHeartbeats 1000000 in
theorem two_great (A B : Option Addr) (n m ca cb : Nat) (x : F) (w : World) (h : 60 < n ∨ (n ≤ 60 ∧ 60 < m)) (hn : n ≤ 9223372036854775807) (hm : m ≤ 9223372036854775807) :
    Calls Try.prog 9 #[.slice A n ca, .slice B m cb, .int .u8 x.n] w fun e w' => e = .returned (.bool true) ∧ Below w.heap.size w w' := by
  rcases h with h | ⟨h, h2⟩
  all_goals
    go_enter Try.func9, Try.ntmps9
    go_wp2_with (go_at_call 27; refine (alive02_c _).mono ?_; rintro e w1 ⟨rfl, hb1⟩)
    go_ret
    exact ⟨rfl, hb1⟩
theorem walk_PolyTwo (w : World) (A : Option Addr) (n ca : Nat) (p : List F) (hp : RowIn w A n ca p) (B : Option Addr) (m cb : Nat) (q : List F) (hq : RowIn w B m cb q) (x : F) :
    Calls Try.prog 9 #[.slice A n ca, .slice B m cb, .int .u8 x.n] w fun e w' => e = .returned (.bool true) ∧ Below w.heap.size w w' := by
  by_cases hn : n ≤ 60
  · by_cases hm : m ≤ 60
    · exact two_small A B n m ca cb p q x w hp hq hn hm
    · exact two_great A B n m ca cb x w (.inr ⟨hn, by omega⟩) hp.row.max hq.row.max
  · exact two_great A B n m ca cb x w (.inl (by omega)) hp.row.max hq.row.max
end Go.Proofs.Ytpghcclgphjflaa
