/-
  THE CONTRACT OF poly.DivMod. Rows are as great as memory lets them be.
-/
import Derived.Test.YtcodgamhgfafnaaPoly5
import Derived.Test.YtcodgamhgfafnaaBase
namespace Go.Proofs.Ytcodgamhgfafnaa
open Go.RowKit
set_option maxRecDepth 100000
set_option linter.unusedVariables false

/-- one step of the division -/
theorem div_step {p q U S S' : List F} {b j : Nat} {c : F} (hb : 1 ≤ b) (hj : j < U.length) (hU : gt U j = 0) (hq : ∀ i, b ≤ i → gt q i = 0) (hc : gt S (j + (b - 1)) + gt q (b - 1) * c = 0)
    (he : ∀ r, gt p r = gt (pmul U q) r + gt S r) (hz : ∀ r, j + 1 + (b - 1) ≤ r → gt S r = 0) (hS : ∀ r, gt S' r = gt S r + if j ≤ r ∧ r < j + b then gt q (r - j) * c else 0) :
    (∀ r, gt p r = gt (pmul (U.set j c) q) r + gt S' r) ∧ (∀ r, j + (b - 1) ≤ r → gt S' r = 0) := by
  constructor
  · intro r
    rw [pmul_set _ _ _ _ hj hU, hS, he r]
    by_cases h1 : j ≤ r
    · rw [if_pos h1]
      by_cases h2 : r < j + b
      · rw [if_pos ⟨h1, h2⟩, mul_comm c]
        have e : ∀ x y z : F, x + y = x + z + (y + z) := fun x y z => by
          have : x + z + (y + z) = x + y + (z + z) := by ac_rfl
          rw [this, add_self, add_zero]
        exact e _ _ _
      · rw [if_neg (by omega), hq _ (by omega), mul_zero, add_zero, add_zero]
    · rw [if_neg h1, if_neg (by omega), add_zero, add_zero]
  · intro r hr
    rw [hS]
    by_cases h1 : r = j + (b - 1)
    · subst h1
      rw [if_pos (by omega), show j + (b - 1) - j = b - 1 by omega]
      exact hc
    · rw [if_neg (by omega), add_zero, hz r (by omega)]
theorem div_end {p q U S : List F} {a b N : Nat} (ha : (tr p).length = a) (hb : (tr q).length = b) (hb1 : 1 ≤ b) (hab : b ≤ a) (hN : N = a - (b - 1)) (hU : U.length = N)
    (he : ∀ r, gt p r = gt (pmul U q) r + gt S r) (hz : ∀ r, b - 1 ≤ r → gt S r = 0) : IsDiv p q U (tr S) := by
  have hq : ∀ i, b - 1 < i → gt q i = 0 := fun i hi => by rw [← gt_tr]; exact gt_ge (by omega)
  have hUt : ∀ i, N - 1 < i → gt U i = 0 := fun i hi => gt_ge (by omega)
  refine ⟨fun i => by rw [gt_tr]; exact he i, ?_, tr_of_last (.inr ?_), tr_tr S⟩
  · have h1 : (tr S).length ≤ b - 1 := by rw [tr_length]; exact tl_le_of _ _ _ hz
    omega
  · rw [hU]
    intro e
    have h1 := he (a - 1)
    have h2 := pmul_top U q (N - 1) (b - 1) hUt hq
    rw [show N - 1 + (b - 1) = a - 1 by omega, e, zero_mul] at h2
    rw [h2, hz _ (by omega), add_zero] at h1
    have h3 : tr p ≠ [] := fun e2 => by rw [e2] at ha; simp at ha; omega
    have h4 := tr_last h3
    rw [ha] at h4
    exact h4 h1
theorem div_less {p q : List F} (h : (tr p).length < (tr q).length) : IsDiv p q [] (tr p) :=
  ⟨fun i => by rw [gt_tr, show gt (pmul [] q) i = 0 from rfl, zero_add], h, rfl, tr_tr p⟩
theorem results_tmp3' {fn : Func} {t u v : Tmp} (h : fn.results = #[.tmp t, .tmp u, .tmp v]) (tmps : Array Value) (P : Program) (w : World) :
    (results fn tmps).run P w = .ok (.tuple #[tmps.getD t undef, tmps.getD u undef, tmps.getD v undef]) w := by simp [results, h]

set_option maxHeartbeats 1000000 in
theorem DivMod_none (A B : Option Addr) (n m ca cb : Nat) (p q : List F) (w : World) (hp : RowIn w A n ca p) (hq : RowIn w B m cb q) (h0 : tr q = []) :
    Calls Try.prog 39 #[.slice A n ca, .slice B m cb] w fun e w' => e = .returned (.tuple #[.slice none 0 0, .slice none 0 0, .bool false]) ∧ w = w' := by
  obtain ⟨b, htb⟩ : ∃ b, tl q m = b := ⟨_, rfl⟩
  have hlb := tl_le q m
  rw [htb] at hlb
  have hb0 : b = 0 := by
    have := tr_length q
    rw [h0, hq.row.len, htb] at this
    simpa using this.symm
  have hB1 : ((b : Int) == 0) = true := by rw [hb0]; rfl
  have HB := Lib.hid htb
  have hcb := hq.le
  have hcm := hq.max
  unfold maxLen at hcm
  clear htb hb0 h0
  go_enter Try.func39, Try.ntmps39
  go_wp2_with (go_at_call 33; refine (Degree_at B m cb b q _ hq.row HB.out).mono ?_; rintro e w' ⟨rfl, rfl⟩)
  go_ret3
  exact ⟨rfl, rfl⟩
set_option maxHeartbeats 1000000 in
theorem DivMod_less (A B : Option Addr) (n m ca cb : Nat) (p q : List F) (w : World) (hp : RowIn w A n ca p) (hq : RowIn w B m cb q) (hn : n ≤ 140737488355328) (h1 : (tr p).length < (tr q).length) :
    Calls Try.prog 39 #[.slice A n ca, .slice B m cb] w fun e w' => ∃ U u cu ul R r cr rl, e = .returned (.tuple #[.slice U u cu, .slice R r cr, .bool true]) ∧ RowIn w' U u cu ul ∧ RowIn w' R r cr rl ∧ IsDiv p q ul rl ∧ Below w.heap.size w w' := by
  have hdiv := div_less h1
  rw [tr_length, tr_length, hp.row.len, hq.row.len] at h1
  obtain ⟨b, htb⟩ : ∃ b, tl q m = b := ⟨_, rfl⟩
  obtain ⟨a, hta⟩ : ∃ a, tl p n = a := ⟨_, rfl⟩
  have hlb := tl_le q m
  have htrim := Trim_c A n ca p w hp.row hp.le hp.max hn
  rw [hta] at h1 htrim
  rw [htb] at hlb h1
  have hB1 : ((b : Int) == 0) = false := by rw [beq_eq_false_iff_ne]; omega
  have HB := Lib.hid htb
  have HT := Lib.hid htrim
  have hcb := hq.le
  have hcm := hq.max
  unfold maxLen at hcm
  clear htb hta htrim
  go_enter Try.func39, Try.ntmps39
  go_wp2_with (first
    | (go_at_call 33; refine (Degree_at B m cb b q _ hq.row HB.out).mono ?_; rintro e w' ⟨rfl, rfl⟩)
    | (go_at_call 46; refine HT.out.mono ?_; rintro e w1 ⟨A', c', rfl, hown, hbel⟩))
  go_ret3
  have hcap := own_shape hown
  obtain ⟨_, _, hv, hc1, hc2⟩ := hcap
  injection hv with _ _ hv
  subst hv
  exact ⟨none, 0, 0, [], A', a, c', tr p, rfl, RowIn.nil_ _, ⟨Row.of_own hown, hc1, hc2⟩, hdiv, hbel⟩

set_option maxHeartbeats 2000000 in
theorem DivMod_some (A B : Option Addr) (n m ca cb : Nat) (p q : List F) (w : World) (hp : RowIn w A n ca p) (hq : RowIn w B m cb q) (hn : n ≤ 140737488355328) (h0 : tr q ≠ []) (h1 : (tr q).length ≤ (tr p).length) :
    Calls Try.prog 39 #[.slice A n ca, .slice B m cb] w fun e w' => ∃ U u cu ul R r cr rl, e = .returned (.tuple #[.slice U u cu, .slice R r cr, .bool true]) ∧ RowIn w' U u cu ul ∧ RowIn w' R r cr rl ∧ IsDiv p q ul rl ∧ Below w.heap.size w w' := by
  obtain ⟨i0, hi, hz0, hz1, hz2⟩ := info_parts info_u8
  have hb1 := List.length_pos_iff.2 h0
  have htop := tr_last h0
  rw [tr_length, tr_length, hp.row.len, hq.row.len] at h1
  rw [tr_length, hq.row.len] at hb1 htop
  obtain ⟨b, htb⟩ : ∃ b, tl q m = b := ⟨_, rfl⟩
  obtain ⟨a, hta⟩ : ∃ a, tl p n = a := ⟨_, rfl⟩
  have hlb := tl_le q m
  have hla := tl_le p n
  have htrim := Trim_c A n ca p w hp.row hp.le hp.max hn
  rw [hta] at h1 htrim hla
  rw [htb] at hlb h1 hb1 htop
  have hB1 : ((b : Int) == 0) = false := by rw [beq_eq_false_iff_ne]; omega
  have HB := Lib.hid htb
  have HA := Lib.hid hta
  have HT := Lib.hid htrim
  have HTOP := Lib.hid htop
  have hcb := hq.le
  have hcm := hq.max
  unfold maxLen at hcm
  clear htb hta htrim h0 htop
  obtain ⟨b2, o2, rfl, l2, h2⟩ := hq.row.at_ (k := b - 1) (by omega)
  obtain ⟨N, hN1, hN2⟩ : ∃ N, N + b ≤ a + 1 ∧ a + 1 ≤ N + b := ⟨a - (b - 1), by omega, by omega⟩
  go_enter Try.func39, Try.ntmps39
  go_wp2_with (first
    | (go_at_call 33; refine (Degree_at _ m cb b q _ hq.row HB.out).mono ?_; rintro e w' ⟨rfl, rfl⟩)
    | (go_at_call 46; refine HT.out.mono ?_; rintro e w1 ⟨A', c', rfl, hown, hbel⟩; replace h2 := (hbel.cell (p := ⟨b2, o2 + (b - 1), none⟩) l2).trans h2; obtain ⟨gr, rfl, hr1, hr2⟩ := own_at hown (by omega); have hcr := own_cap hown)
    | (go_at_call 31; refine (Inv_c _ _).mono ?_; rintro e w' ⟨rfl, rfl⟩)
    | (at_make; refine wpList_make_full _ rfl _ _ 22 rfl w.heap.size 5 i0 (.int .u8 0) 1 Try.underlying22 hi hz0 hz1 _ _ _ _ N rfl rfl (by omega) (by omega) (by rw [hz2]; omega) (by unfold maxLen; omega) hbel.size ?_; intro w2 hown2 hgrow2))
  have hbel2 : Below w.heap.size w w2 := hbel.grown hgrow2 hbel.size (fun k h => by cases h)
  have hown1 := hown.kept hgrow2 (.inr (by simp [Value.ownBlock]))
  have hrb0 : Row w (some ⟨b2, o2, none⟩) b (q.take b) := hq.row.take hlb
  have hqb : ∀ i, gt (q.take b) i = gt q i := fun i => by
    rw [gt_take]
    split
    · rfl
    · rw [tl_top hq.row.len i (by rw [HB.out]; omega)]
  have HQ := Lib.hid hqb
  clear hqb
  have hz1' := hbel2.size
  have hgq : w.heap.size ≤ w1.heap.size := hbel.size
  have hne : gr ≠ w1.heap.size := by omega
  clear hown hgrow2 hbel h2
  generalize w1.heap.size = gq at *
  go_loopw [9] (fun i wr => ∃ (k : Nat) (U S : List F), k ≤ N ∧ i = .int .i64 ((k : Int) - 1) ∧ wr.ownsRow w.heap.size 5 1 (.slice (some ⟨gq, 0, none⟩) N N) N (cs U) ∧ wr.ownsRow w.heap.size 5 1 (.slice (some ⟨gr, 0, none⟩) a c') a (cs S) ∧ Below w.heap.size w wr ∧
      Hid ((∀ r, gt p r = gt (pmul U q) r + gt S r) ∧ (∀ r, k + (b - 1) ≤ r → gt S r = 0) ∧ ∀ j, j < k → gt U j = 0)) (fun i _ => (intOf i + 1).toNat)
  case atStart =>
    have h : madeCells (Value.int .u8 0).cells (N * 1) = madeCells #[.int .u8 0] N := by rw [Nat.mul_one]; rfl
    rw [h, toList_madeCells_one, ← cs_replicate] at hown2
    refine ⟨N, _, _, Nat.le_refl _, rfl, hown2, hown1, hbel2, fun r => ?_, fun r hr => ?_, fun j _ => gt_replicate _ _⟩
    · rw [pmul_none _ _ (.inl fun i => gt_replicate _ _), zero_add, gt_tr]
    · rw [gt_tr]; exact tl_top hp.row.len r (by rw [HA.out]; omega)
  case round =>
    clear hown2 hown1 hbel2
    obtain ⟨k, U, S, hk, rfl, hownU, hownS, hbel, hdv⟩ := hrel
    have hlU := own_len hownU
    have hlS := own_len hownS
    by_cases hk0 : 1 ≤ k
    · obtain ⟨j, rfl⟩ : ∃ j, k = j + 1 := ⟨k - 1, by omega⟩
      have e : ((j + 1 : Nat) : Int) - 1 = (j : Int) := by omega
      rw [e]
      clear e
      have hc1 := hownS.cellAt (j + (b - 1)) (by omega)
      rw [cs_at (by omega)] at hc1
      have hf := hownU.frozenAt j
      have hc2 := hownU.cellAt j (by omega)
      rw [cs_at (by omega)] at hc2
      obtain ⟨c, hcdef⟩ : ∃ c, c = gt S (j + (b - 1)) * inv (gt q (b - 1)) := ⟨_, rfl⟩
      have hst := hownU.stored j (.int .u8 c.n)
      have hkS := hownS.kept hst.2 (.inr (by simp [Value.ownBlock]; exact hne))
      have hkU := hst.1
      rw [cs_set] at hkU
      have hbel1 : Below w.heap.size w (wr.setCell ⟨gq, j, none⟩ (.int .u8 c.n)) := hbel.setCell hgq _
      have hjc : j < c' := by omega
      have hja : j < a := by omega
      have HKU := Lib.hid hkU
      have HKS := Lib.hid hkS
      have HCD := Lib.hid hcdef
      have HLU := Lib.hid hlU
      have HLS := Lib.hid hlS
      have hrb1 := hrb0.below hbel1
      have hneq : ∀ z, (some (⟨b2, o2, none⟩ : Addr)) = some z → z.block ≠ gr := fun z e => by injection e with e; subst e; exact fun e => by simp at e; omega
      have HNE := Lib.hid hneq
      clear hst hkU hkS hcdef hlU hlS hneq
      go_wp2_with (go_at_call 30; refine (Mul_c _ _ _).mono ?_; rintro e w' ⟨rfl, rfl⟩; rw [← HCD.out])
      go_region_with ((go_at_call 35; refine (addTimes_c w.heap.size gr j (a - j) (c' - j) a c' _ b cb S (q.take b) c _ (by exact HKS.out.drew) (by exact hrb1.drew) HNE.out (by omega) (by omega) (by omega)).mono ?_; rintro e w5 ⟨rfl, ⟨S', hownS', hs'⟩, hgr⟩; have HS := Lib.hid hs'; clear hs'))
      all_goals go_wp2
      all_goals
        go_roundw
        case rel =>
          have hq0 : ∀ i, b ≤ i → gt q i = 0 := fun i hi => tl_top hq.row.len i (by rw [HB.out]; exact hi)
          have hcz : gt S (j + (b - 1)) + gt q (b - 1) * c = 0 := by
            rw [HCD.out, mul_left_comm, mul_inv HTOP.out, mul_one, add_self]
          have hS : ∀ r, gt S' r = gt S r + if j ≤ r ∧ r < j + b then gt q (r - j) * c else 0 := fun r => by rw [HS.out r, HQ.out]
          have hd := div_step hb1 (by rw [HLU.out]; omega) (hdv.out.2.2 j (by omega)) hq0 hcz hdv.out.1 hdv.out.2.1 hS
          refine ⟨j, U.set j c, S', by omega, rfl, HKU.out.drew.kept hgr (.inr (by simp [Value.ownBlock]; exact fun e => hne e.symm)), hownS', hbel1.drew.grown hgr hbel1.size (fun g e => by injection e with e; omega), hd.1, hd.2, fun i hi => ?_⟩
          rw [gt_set _ _ _ _ (by rw [HLU.out]; omega), if_neg (by omega)]
          exact hdv.out.2.2 i (by omega)
        case measure => simp [intOf] <;> omega
    · obtain rfl : k = 0 := by omega
      have htp : (tr p).length = a := by rw [tr_length, hp.row.len]; exact HA.out
      have htq : (tr q).length = b := by rw [tr_length, hq.row.len]; exact HB.out
      have hfin := div_end htp htq hb1 h1 (by omega) hlU hdv.out.1 (fun r hr => hdv.out.2.1 r (by omega))
      have hle := tl_le S a
      have hr := Row.of_own hownS
      have htS := tl_take S a hlS
      rw [htS] at hfin
      have hU' := Row.of_own hownU
      clear hdv htp htq htS hlU hlS
      generalize ht : tl S a = t at *
      have HTT := Lib.hid ht
      have HF := Lib.hid hfin
      clear ht hfin
      have htc : t ≤ c' := by omega
      go_wp2
      go_quiet ((go_at_call 33; first | with_reducible exact quiet_deg0 _ a c' t _ S _ hr HTT.out | with_reducible exact quiet_deg _ a c' t _ _ S _ hr HTT.out))
      go_wp2
      go_ret3
      exact ⟨_, N, N, U, _, t, c', S.take t, rfl, ⟨hU'.drewN _, Nat.le_refl _, by unfold maxLen; omega⟩, ⟨(hr.take hle).drewN _, by omega, by unfold maxLen; omega⟩, HF.out, below_drewN hbel _⟩
theorem DivMod_ok (A B : Option Addr) (n m ca cb : Nat) (p q : List F) (w : World) (hp : RowIn w A n ca p) (hq : RowIn w B m cb q) (hn : n ≤ 140737488355328) (h0 : tr q ≠ []) :
    Calls Try.prog 39 #[.slice A n ca, .slice B m cb] w fun e w' => ∃ U u cu ul R r cr rl, e = .returned (.tuple #[.slice U u cu, .slice R r cr, .bool true]) ∧ RowIn w' U u cu ul ∧ RowIn w' R r cr rl ∧ IsDiv p q ul rl ∧ Below w.heap.size w w' := by
  rcases Nat.lt_or_ge (tr p).length (tr q).length with h | h
  · exact DivMod_less A B n m ca cb p q w hp hq hn h
  · exact DivMod_some A B n m ca cb p q w hp hq hn h0 h
end Go.Proofs.Ytcodgamhgfafnaa
