/-
  LAW 09: LengthsTurned, of nil, and the whole. No conditions.
-/
import Derived.Test.YtfnjjeopojdnjaaLaw09e
import Derived.Laws.AppendOwnNone
namespace Go.Proofs.Ytfnjjeopojdnjaa
open Go.RowKit
set_option maxRecDepth 100000
set_option linter.unusedVariables false

theorem step_append_none {P : Program} {w : World} {ops : Array Oper} {o : Oper} {a : Act} {K : Act → World → Prop} {Q : Exit → Act → World → Prop} {G : Prop} (hgd : o.guard = none) (s x : Operand) (t : TypeId)
    (ho : o.op = .call { callee := .builtin .append, args := #[s, x], argTypes := #[t, t] })
    (base : Nat) (e : TypeId) (i : TypeInfo) (size : Nat) (ht : P.underlying t = some (.slice e)) (hi : P.info? e = some i)
    (v : Value) (n : Nat) (xs : List Value) (hs : a.eval s = v) (hown : w.ownsRow base e size v n xs) (hx : a.eval x = .slice none 0 0)
    (h : K (a.put o.dst v) w) : if Region.wanted o (yielded ops a.tmps) = true then Oper.wp P o a w K Q else G := by
  have hw : Region.wanted o (yielded ops a.tmps) = true := by simp [Region.wanted, hgd]
  rw [if_pos hw]
  have hrun := run_append_owned_none (P := P) (w := w) base t o.type e i size ht hi v n xs hown
  unfold Oper.wp
  simp [execOp, ho, resolve, invoke, builtin, hs, hx, hrun, Result.andThen]
  exact h
theorem wpList_append_none_w {P : Program} {w : World} {ops : Array Oper} {rest : List Oper} {o : Oper} {a : Act} {Q : Exit → Act → World → Prop} (hw : Region.wanted o (yielded ops a.tmps) = true) (s x : Operand) (t : TypeId)
    (ho : o.op = .call { callee := .builtin .append, args := #[s, x], argTypes := #[t, t] })
    (base : Nat) (e : TypeId) (i : TypeInfo) (size : Nat) (ht : P.underlying t = some (.slice e)) (hi : P.info? e = some i)
    (v : Value) (n : Nat) (xs : List Value) (hs : a.eval s = v) (hown : w.ownsRow base e size v n xs) (hx : a.eval x = .slice none 0 0)
    (h : wpList P ops Q rest (a.put o.dst v) w) : wpList P ops Q (o :: rest) a w := by
  refine wpList_step fun K hK => ?_
  rw [if_pos hw]
  have hrun := run_append_owned_none (P := P) (w := w) base t o.type e i size ht hi v n xs hown
  unfold Oper.wp
  simp [execOp, ho, resolve, invoke, builtin, hs, hx, hrun, Result.andThen]
  exact hK _ _ h
def two0 : List Int := [0, 0]
def one1 : List Int := [1]
theorem made_none {L m : Nat} {A : Nat → Nat} (h : MadeX [] 0 L m A) : cst [] (nI (arr A 0)) 0 = 0 := rfl
theorem made_two {L m : Nat} {A : Nat → Nat} (h : MadeX two0 2 L m A) : cst two0 (nI (arr A 2)) 2 = 0 := by
  have h0 := h.zero 0 (by decide) (by decide)
  have h1 := h.zero 1 (by decide) (by decide)
  have e : nI (arr A 2) = [0, 0] := by
    show [((A 0 : Nat) : Int), ((A 1 : Nat) : Int)] = _
    rw [h0, h1]
    rfl
  rw [e]
  decide
theorem made_one {L m : Nat} {A : Nat → Nat} (h : MadeX one1 1 L m A) (hL : L ≤ 15) : 0 < cst one1 (nI (arr A 1)) 1 := by
  have h0 := h.pos 0 (by decide) (by decide)
  have h1 := h.most 0
  show 0 < 0 + hN 1 1073741824 * hN ((A 0 : Nat) : Int) 15
  have h2 : hN 1 1073741824 = 1 := by decide
  have h3 : hN ((A 0 : Nat) : Int) 15 = A 0 := hN_in2 (by omega) (by omega)
  rw [h2, h3]
  omega
set_option maxRecDepth 1000000 in
set_option maxHeartbeats 16000000 in
theorem turned_none (w : World) (Lk : Nat) (hL7 : 7 ≤ Lk) (hL15 : Lk ≤ 15) (c0 : Int) (_hc : (Lit.int .i64 c0).wf = true) :
    Calls Try.prog 8 #[.slice none 0 0, .int .i64 Lk, .int .i64 c0] w fun e w' => e = .returned (.bool true) ∧ Below w.heap.size w w' := by
  obtain ⟨i0, hi, hz0, hz1, hz2⟩ := info_parts info_int
  have ec : bits .and .i64 c0 63 = c0 % 64 := andLow c0 6 (by decide)
  obtain ⟨t, ht, ht9⟩ := mod_lowI c0 64 (by decide)
  rw [show ((64 : Nat) : Int) = 64 from rfl] at ht
  rw [ht] at ec
  have hc1 : (t : Int) % 1 = 0 := by omega
  have hc2 : (t : Int).tmod 1 = 0 := by rw [Int.tmod_eq_emod_of_nonneg (by omega), hc1]
  have hNO : ∀ (l : List Int) (n : Nat), n ≤ 2 → (∀ i, i < n → 0 ≤ gi l i ∧ gi l i ≤ 100) → chkE l n (Lk : Int) = 0 := fun l n hn hl =>
    chk_of (by omega) (by omega) (fun i hi => by have := hl i hi; omega) (by
      have h1 := comeN_len l n
      have h2 := pow_mono hL7
      have h3 : (2 : Nat) ^ 7 = 128 := rfl
      rw [Int.toNat_natCast]
      omega)
  have HNO := Lib.hid hNO
  clear ht _hc hNO
  go_enter Try.func8, Try.ntmps8
  go_wp2_with fail
  refine (alive09_c w).mono ?_
  rintro e w1 ⟨rfl, hb1⟩
  go_wp2
  go_loop [32] (fun vi => vi = .int .i64 0) (fun vi => 0)
  case atStart => rfl
  case round =>
    obtain rfl := hrel
    go_wp2
    go_region_law ((first
      | (refine step_append_none (by rfl) (.tmp 49) (.tmp 52) 22 (by rfl) w1.heap.size 3 i0 1 Try.underlying22 hi (.slice (some ⟨w1.heap.size, 0, none⟩) 0 0) 0 [] (by rfl) (World.ownsRow_made w1.drew #[] 0 (Nat.le_refl _) (Nat.zero_le _) rfl) (by rfl) ?_)
      | (refine step_append_none (by rfl) (.tmp 53) (.tmp 56) 22 (by rfl) w1.heap.size 3 i0 1 Try.underlying22 hi (.slice (some ⟨w1.heap.size, 0, none⟩) 0 0) 0 [] (by rfl) (World.ownsRow_made w1.drew #[] 0 (Nat.le_refl _) (Nat.zero_le _) rfl) (by rfl) ?_)))
    go_wp2_with fail
    have hT2 : ((w1.alloc (.cells #[] 3)).drew).ownsRow w1.heap.size 3 1 (.slice (some ⟨w1.heap.size, 0, none⟩) 0 0) 0 [] := World.ownsRow_made w1 #[] 0 (Nat.le_refl _) (Nat.zero_le _) rfl
    have hB2 : Below w1.heap.size w1 ((w1.alloc (.cells #[] 3)).drew) := ((Below.refl w1.heap.size w1).alloc (Nat.le_refl _) _).drew
    generalize (w1.alloc (.cells #[] 3)).drew = w2 at *
    obtain ⟨q, hq⟩ : ∃ q, q = w1.heap.size := ⟨_, rfl⟩
    rw [← hq] at hT2 hB2 ⊢
    have HQ := Lib.hid hq
    have hq2 : q ≤ w2.heap.size := by rw [hq]; exact hB2.size
    clear hq
    refine (Make_y none 0 0 [] Lk w2 (IRow.nil_ _ _ _) (HNO.out [] 0 (by omega) (fun i hi => by omega))).mono ?_
    rintro e w7 ⟨ga, rfl, A1, hr1, hga, hx1, hb7⟩
    have hT7 := own_below hT2 hb7
    have hg2 := (hT2.lt q rfl).2
    have hB7 := hB2.trans (hb7.mono hq2)
    have hs7 := (hT7.lt q rfl).2
    clear hT2 hB2 hga
    go_wp2_with (at_builtin; refine wpList_append_keeps _ rfl _ _ 22 rfl q 3 i0 (.int .i64 0) 8 Try.underlying22 hi hz0 hz1 hz2 rfl q 0 0 [] rfl (hT7.alloc _) ⟨w7.heap.size, 0, none⟩ 2 2 [.int .i64 0, .int .i64 0] rfl rfl (two_cellF w7) (by intro u hu; simp at hu; subst hu; rfl) (by unfold maxLen; omega) (by omega) (by simp; omega) ?_; intro v8 w8 hown8 hkeep8 hgrow8; obtain ⟨O8, c8, hv8, _⟩ := own_shape hown8; rw [Nat.zero_add] at hv8 hown8; rw [List.nil_append] at hown8; subst hv8)
    have hB8 : Below q w1 w8 := (hB7.alloc (by omega) _).grown hgrow8 (by simp; omega) (fun j hj => by cases hj; exact Nat.le_refl _)
    have hg28 := (hkeep8.lt q rfl).2
    have hr8 : IRow w8 O8 2 .i64 two0 := IRow.ofF (f := fun _ => (0 : Int)) hown8 (fun v hv => by constructor <;> decide) (by decide)
    refine (Make_y O8 2 c8 two0 Lk w8 hr8 (HNO.out two0 2 (by omega) (by decide))).mono ?_
    rintro e w9 ⟨gb, rfl, B1, hr2, hgb, hx2, hb9⟩
    rw [Int.toNat_natCast] at hx1 hx2
    have hT9 := own_below hkeep8 hb9
    have hB9 := hB8.trans (hb9.mono (by omega))
    have hs9 : q < w9.heap.size := (hT9.lt q rfl).2
    have hqb := hgb (by decide)
    clear hr8 hkeep8 hown8 hgrow8 hB8 hb9 hT7 hB7 hr1 hb7 hgb
    go_wp2_with (at_builtin; first
      | (refine wpList_append_own_none rfl (.tmp 73) (.tmp 74) 22 rfl w9.heap.size 3 i0 1 Try.underlying22 hi (.slice (some ⟨w9.heap.size, 0, none⟩) 0 0) 0 [] rfl (World.ownsRow_made w9 #[] 0 (Nat.le_refl _) (Nat.zero_le _) rfl) rfl ?_)
      | (refine wpList_append_own _ rfl (.tmp 75) (.tmp 76) 22 rfl w9.heap.size 3 i0 (.int .i64 0) 1 8 Try.underlying22 hi hz0 hz1 hz2 rfl (by decide) (.slice (some ⟨w9.heap.size, 0, none⟩) 0 0) 0 [] rfl ((World.ownsRow_made w9 #[] 0 (Nat.le_refl _) (Nat.zero_le _) rfl).alloc _) ⟨w9.heap.size + 1, 0, none⟩ 1 1 [.int .i64 1] rfl rfl (by have h := one_cellF (w9.alloc (.cells #[] 3)) 1; rw [World.size_alloc] at h; exact h) (by intro u hu; simp at hu; subst hu; rfl) (by unfold maxLen; omega) (by omega) (by simp; omega) ?_; intro v11 w11 hown11 hgrow11 hnil11; obtain ⟨A11, c11, hv11, _⟩ := own_shape hown11; rw [Nat.zero_add] at hv11 hown11; rw [List.nil_append] at hown11; subst hv11))
    have hb911 : Below w9.heap.size w9 w11 := (((Below.refl w9.heap.size w9).alloc (Nat.le_refl _) _).alloc (by simp) _).grown hgrow11 (by simp; omega) (fun j hj => by cases hj; exact Nat.le_refl _)
    have hs911 := hb911.size
    have hr211 := hr2.below hb911
    have hT11 := own_below hT9 hb911
    have hB11 := hB9.trans (hb911.mono (by omega))
    have hr11 : IRow w11 A11 1 .i64 one1 := IRow.ofF (f := fun _ => (1 : Int)) hown11 (fun v hv => by constructor <;> decide) (by decide)
    refine (Make_y A11 1 c11 one1 Lk w11 hr11 (HNO.out one1 1 (by omega) (by decide))).mono ?_
    rintro e w12 ⟨gc, rfl, C1, hr3, hgc, hx3, hb12⟩
    rw [Int.toNat_natCast] at hx3
    have hqc := hgc (by decide)
    have hr212 := hr211.below hb12
    have hT12 := own_below hT11 hb12
    have hB12 := hB11.trans (hb12.mono (by omega))
    have k2 := made_two hx2
    have k3 := made_one hx3 hL15
    clear hr11 hr211 hT11 hB11 hb12 hown11 hgrow11 hb911 hr2 hT9 hB9 hgc hx1 hx2 hx3
    go_wp2_with fail
    refine (Cost_c none (some ⟨ga, 0, none⟩) 0 0 0 0 [] (nI (arr A1 0)) w12 (IRow.nil_ _ _ _) (IRow.nil_ _ _ _) (by decide) (by decide)).mono ?_
    rintro e w13 ⟨rfl, q13, rfl⟩
    rw [show cst [] (nI (arr A1 0)) (min 0 0) = 0 from rfl]
    have hr213 := hr212.drewN q13
    have hr313 := hr3.drewN q13
    have hT13 : (w12.drewN q13).ownsRow q 3 1 (.slice (some ⟨q, 0, none⟩) 0 0) 0 [] := hT12
    have hB13 := below_drewN hB12 q13
    generalize w12.drewN q13 = w13 at *
    have hs13 := (hT13.lt q rfl).2
    clear hr212 hr3 hT12 hB12
    go_wp2_with (at_builtin; refine wpList_append_own_w9 (show Region.wanted _ (yielded _ _) = true from rfl) (.tmp 96) (.tmp 97) 22 rfl q 3 i0 (.int .i64 0) 1 8 Try.underlying22 hi hz0 hz1 hz2 rfl (by decide) (.slice (some ⟨q, 0, none⟩) 0 0) 0 [] rfl (hT13.alloc _) ⟨w13.heap.size, 0, none⟩ 2 2 [.int .i64 0, .int .i64 0] rfl rfl (two_cellF w13) (by intro u hu; simp at hu; subst hu; rfl) (by unfold maxLen; omega) (by omega) (by simp; omega) ?_; intro v14 w14 hown14 hgrow14; obtain ⟨O14, c14, hv14, _⟩ := own_shape hown14; rw [Nat.zero_add] at hv14 hown14; rw [List.nil_append] at hown14; subst hv14)
    have hr214 : IRow w14 (some ⟨gb, 0, none⟩) 2 .i64 (nI (arr B1 2)) := IRow.kept9 (hr213.alloc _) hgrow14 (fun h0 e => by injection e with e; simp at e; omega)
    have hr314 : IRow w14 (some ⟨gc, 0, none⟩) 1 .i64 (nI (arr C1 1)) := IRow.kept9 (hr313.alloc _) hgrow14 (fun h0 e => by injection e with e; simp at e; omega)
    have hB14 : Below q w1 w14 := (hB13.alloc (by omega) _).grown hgrow14 (by simp; omega) (fun j hj => by cases hj; exact Nat.le_refl _)
    have hr14 : IRow w14 O14 2 .i64 two0 := IRow.ofF (f := fun _ => (0 : Int)) hown14 (fun v hv => by constructor <;> decide) (by decide)
    clear hr213 hr313 hT13 hB13 hgrow14 hown14
    refine (Cost_c O14 (some ⟨gb, 0, none⟩) 2 2 c14 2 two0 (nI (arr B1 2)) w14 hr14 hr214 (by decide) (by decide)).mono ?_
    rintro e w15 ⟨rfl, q15, rfl⟩
    rw [Nat.min_self, k2]
    have hr315 := hr314.drewN q15
    have hB15 := below_drewN hB14 q15
    have hs15 : q ≤ (w14.drewN q15).heap.size := by have := hB15.size; have := HQ.out; omega
    generalize w14.drewN q15 = w15 at *
    clear hr14 hr214 hr314 hB14
    go_wp2_with (at_builtin; first
      | (refine wpList_append_none_w (show Region.wanted _ (yielded _ _) = true from rfl) (.tmp 105) (.tmp 106) 22 rfl w15.heap.size 3 i0 1 Try.underlying22 hi (.slice (some ⟨w15.heap.size, 0, none⟩) 0 0) 0 [] rfl (World.ownsRow_made w15 #[] 0 (Nat.le_refl _) (Nat.zero_le _) rfl) rfl ?_)
      | (refine wpList_append_own_w9 (show Region.wanted _ (yielded _ _) = true from rfl) (.tmp 107) (.tmp 108) 22 rfl w15.heap.size 3 i0 (.int .i64 0) 1 8 Try.underlying22 hi hz0 hz1 hz2 rfl (by decide) (.slice (some ⟨w15.heap.size, 0, none⟩) 0 0) 0 [] rfl ((World.ownsRow_made w15 #[] 0 (Nat.le_refl _) (Nat.zero_le _) rfl).alloc _) ⟨w15.heap.size + 1, 0, none⟩ 1 1 [.int .i64 1] rfl rfl (by have h := one_cellF (w15.alloc (.cells #[] 3)) 1; rw [World.size_alloc] at h; exact h) (by intro u hu; simp at hu; subst hu; rfl) (by unfold maxLen; omega) (by omega) (by simp; omega) ?_; intro v17 w17 hown17 hgrow17; obtain ⟨A17, c17, hv17, _⟩ := own_shape hown17; rw [Nat.zero_add] at hv17 hown17; rw [List.nil_append] at hown17; subst hv17))
    have hb1517 : Below w15.heap.size w15 w17 := (((Below.refl w15.heap.size w15).alloc (Nat.le_refl _) _).alloc (by simp) _).grown hgrow17 (by simp; omega) (fun j hj => by cases hj; exact Nat.le_refl _)
    have hr317 := hr315.below hb1517
    have hB17 := hB15.trans (hb1517.mono hs15)
    have hr17 : IRow w17 A17 1 .i64 one1 := IRow.ofF (f := fun _ => (1 : Int)) hown17 (fun v hv => by constructor <;> decide) (by decide)
    refine (Cost_c A17 (some ⟨gc, 0, none⟩) 1 1 c17 1 one1 (nI (arr C1 1)) w17 hr17 hr317 (by decide) (by decide)).mono ?_
    rintro e w18 ⟨rfl, q18, rfl⟩
    rw [Nat.min_self]
    have hB18 := below_drewN hB17 q18
    generalize cst one1 (nI (arr C1 1)) 1 = x3 at *
    have m2i : (0 : Int) < (x3 : Int) := by omega
    go_wp2
    go_ret
    refine ⟨rfl, hb1.trans ((show Below w1.heap.size w1 _ by rw [← HQ.out]; exact hB18).mono hb1.size)⟩
end Go.Proofs.Ytfnjjeopojdnjaa
