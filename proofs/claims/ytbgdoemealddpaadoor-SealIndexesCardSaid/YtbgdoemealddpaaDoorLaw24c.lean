/-
  LAW 24's WALKS, third part: SealBack: it returns true, and writes nothing that was there. No conditions but that the table lies as the program's text lays it.
-/
import Derived.Test.YtbgdoemealddpaaDoorLaw24
import Derived.Test.YtbgdoemealddpaaDoorFrame24
namespace Go.Proofs.YtbgdoemealddpaaDoor
open Go.RowKit
set_option maxRecDepth 100000
set_option linter.unusedVariables false

theorem andM (x : Int) (m : Nat) (hm : m < 1048576) : ∃ z : Nat, z ≤ m ∧ bits .and .i64 x (m : Int) = (z : Int) := by
  have h1 : (BitVec.ofInt 64 (m : Int)).toNat = m := by
    rw [BitVec.ofInt_natCast, BitVec.toNat_ofNat]
    exact Nat.mod_eq_of_lt (by omega)
  have hx : (BitVec.ofInt 64 x &&& BitVec.ofInt 64 (m : Int)).toNat ≤ m := by
    rw [BitVec.toNat_and, h1]
    exact Nat.and_le_right
  refine ⟨(BitVec.ofInt 64 x &&& BitVec.ofInt 64 (m : Int)).toNat, hx, ?_⟩
  show IntKind.i64.wrap ((BitVec.ofInt 64 x &&& BitVec.ofInt 64 (m : Int)).toNat : Int) = _
  rw [IntKind.wrap_i64]
  omega
theorem own_len6 {w : World} {base n : Nat} {v : Value} {l : List F} {e : TypeId} (h : w.ownsRow base e 1 v n (cs l)) : l.length = n := by
  have := h.1
  rw [cs_length] at this
  omega
theorem bitG_i (t : G) (i : Nat) : (bits BinOp.and IntKind.u32 ((t.n : Int) / 2 ^ i) 1 == 1) = bitG t i := by
  have h : t.n / 2 ^ i ≤ t.n := Nat.div_le_self _ _
  have e : ((t.n : Int) / 2 ^ i) = ((t.n / 2 ^ i : Nat) : Int) := by simp
  have ht := t.lt
  rw [e, show (1 : Int) = ((1 : Nat) : Int) from rfl, u32_and_nat _ _ (by omega) (by omega), Nat.and_one_is_mod]
  unfold bitG
  rw [Nat.testBit_eq_decide_div_mod_eq]
  rcases Nat.mod_two_eq_zero_or_one (t.n / 2 ^ i) with h | h <;> rw [h] <;> rfl
theorem cs_set6 (l : List F) (i : Nat) (x : F) : (cs l).set i (.int .u8 x.n) = cs (l.set i x) := by
  simp [cs, List.map_set]
theorem hd_small {n' k' s' b' i' : Nat} {n : Nat} {RL : Nat → Nat} (h : smallF n' k' s' b' n RL) (hr : RtS n' k' s' b' i') (hR : ∀ r, r < n → RL r = blkN s' b') (hn : n = n' + k') : hdN n' k' (blkN s' b') ≤ 5000 := by
  have hbd := hr.bd
  have h60 : blkN s' b' ≤ 60 := by
    rw [← hR 0 (by omega)]
    exact h.2.1 0 (by omega)
  have h2 := h.2.2 hr.r
  have h1 : 4 * (n' + k') * blkN s' b' ≤ 80 * 60 := Nat.mul_le_mul (by omega) h60
  unfold hdN
  omega
set_option maxHeartbeats 8000000 in
theorem walk_SealBack (w : World) (ht : Tab w) (N K S B I : Int) (A : Option Addr) (n cap : Nat) (RA : Nat → Option Addr) (RL RC : Nat → Nat) (R : Nat → List G) (h4 : Wf4 N K S B) (hI : (Lit.int .i64 I).wf = true) (hG : GIn w A n cap RA RL RC R)
    (C : Option Addr) (L cc : Nat) (col : List F) (hC : RowIn w C L cc col) (Bb : Option Addr) (lb cb : Nat) (lst : List F) (hR : RowIn w Bb lb cb lst) (a : Int) (ha : (Lit.int .i64 a).wf = true) (t : G) :
    Calls Tryd.prog 5 #[.agg #[.int .i64 N, .int .i64 K, .int .i64 S, .int .i64 B, .int .i64 I, .slice A n cap], .slice C L cc, .slice Bb lb cb, .int .i64 a, .int .u32 t.n] w fun e w' => e = .returned (.bool true) ∧ Below w.heap.size w w' := by
  have hb := (Below.refl w.heap.size w).alloc (Nat.le_refl _) (.cells #[.int .i64 N, .int .i64 K, .int .i64 S, .int .i64 B, .int .i64 I, .slice A n cap] 26)
  have HX0 := Lib.hid (Blk.new w 26 #[.int .i64 N, .int .i64 K, .int .i64 S, .int .i64 B, .int .i64 I, .slice A n cap])
  have HB0 := Lib.hid hb
  have HG := Lib.hid hG
  have HC := Lib.hid hC
  have HR := Lib.hid hR
  have HT := Lib.hid ht
  have hLm := hC.row.max
  have hlm := hR.row.max
  have HW := Lib.hid h4
  clear hb hG hC hR ht hI h4
  go_enter Tryd.func5, Tryd.ntmps5
  go_wp2_with fail
  refine (alive24_c _ (HT.out.below HB0.out rfl)).mono ?_
  rintro e W1 ⟨rfl, hb1⟩
  have HX1 := Lib.hid (HX0.out.below HX0.out.lt hb1)
  have HB1 := Lib.hid (HB0.out.trans (hb1.mono HB0.out.size))
  clear hb1 HX0 HB0
  have z0 := (HX1.out.cell 0).trans (show _ = some (Value.int .i64 N) from rfl)
  have z1 := (HX1.out.cell 1).trans (show _ = some (Value.int .i64 K) from rfl)
  have z2 := (HX1.out.cell 2).trans (show _ = some (Value.int .i64 S) from rfl)
  have z3 := (HX1.out.cell 3).trans (show _ = some (Value.int .i64 B) from rfl)
  have z4 := (HX1.out.cell 4).trans (show _ = some (Value.int .i64 I) from rfl)
  have z5 := (HX1.out.cell 5).trans (show _ = some (Value.slice A n cap) from rfl)
  go_wp2_with fail
  refine (small_c HW.out (HG.out.below HB1.out)).mono ?_
  rintro e W2 ⟨b, rfl, hsm, hb2⟩
  have HX2 := Lib.hid (HX1.out.below HX1.out.lt hb2)
  have HB2 := Lib.hid (HB1.out.trans (hb2.mono HB1.out.size))
  have HSM := Lib.hid hsm
  clear hb2 hsm z0 z1 z2 z3 z4 z5 HX1 HB1
  cases b with
  | false =>
    go_wp2
    go_ret
    exact ⟨rfl, HB2.out⟩
  | true =>
    by_cases hLm : 1100 < L
    case pos =>
      have hLi : (1100 : Int) < (L : Int) := by omega
      go_wp2
      go_ret
      exact ⟨rfl, HB2.out⟩
    case neg =>
    have hLi : ¬ (1100 : Int) < (L : Int) := by omega
    by_cases hl6 : 600 < lb
    case pos =>
      have hmi : (600 : Int) < (lb : Int) := by omega
      go_wp2
      go_ret
      exact ⟨rfl, HB2.out⟩
    case neg =>
    have hmi : ¬ (600 : Int) < (lb : Int) := by omega
    have z0 := (HX2.out.cell 0).trans (show _ = some (Value.int .i64 N) from rfl)
    have z1 := (HX2.out.cell 1).trans (show _ = some (Value.int .i64 K) from rfl)
    have z2 := (HX2.out.cell 2).trans (show _ = some (Value.int .i64 S) from rfl)
    have z3 := (HX2.out.cell 3).trans (show _ = some (Value.int .i64 B) from rfl)
    have z4 := (HX2.out.cell 4).trans (show _ = some (Value.int .i64 I) from rfl)
    have z5 := (HX2.out.cell 5).trans (show _ = some (Value.slice A n cap) from rfl)
    cases hw : wrO N K S B I n RL L with
    | false =>
      have HWn := Lib.hid (fun W hG => Write_no (I := I) HW.out (w := W) (A := A) (m := n) (cap := cap) (RA := RA) (RL := RL) (RC := RC) (R := R) hG C L cc (Nat.le_trans (Nat.not_lt.1 hLm) (by decide)) (wrO_no hw))
      clear hw
      go_wp2_with fail
      refine (HWn.out _ (HG.out.below HB2.out)).mono ?_
      rintro e W3 ⟨rfl, hb3⟩
      have HB3 := Lib.hid (HB2.out.trans (hb3.mono HB2.out.size))
      clear hb3 z0 z1 z2 z3 z4 z5 HX2 HB2
      go_wp2_with fail
      refine (Parse_c (HT.out.below HB3.out rfl) (HR.out.below HB3.out) (by omega)).mono ?_
      rintro e Wt ⟨At, ct, RAt, RCt, Ct, cct, rfl, hGt, hCt, hbt⟩
      have hat := (Below.refl Wt.heap.size Wt).alloc (Nat.le_refl _) (.cells #[.int .i64 (pN lst : Nat), .int .i64 (pK lst : Nat), .int .i64 (pS lst : Nat), .int .i64 (pB lst : Nat), .int .i64 (pI lst : Nat), .slice At (pM lst) ct] 26)
      have HXt := Lib.hid (Blk.new Wt 26 #[.int .i64 (pN lst : Nat), .int .i64 (pK lst : Nat), .int .i64 (pS lst : Nat), .int .i64 (pB lst : Nat), .int .i64 (pI lst : Nat), .slice At (pM lst) ct])
      have HGt := Lib.hid (hGt.below hat)
      have HCt := Lib.hid (hCt.below hat)
      have HBt := Lib.hid (HB3.out.trans ((hbt.trans (hat.mono hbt.size)).mono HB3.out.size))
      clear hGt hCt hbt hat
      by_cases hp : prE lst = 0
      case neg =>
        have e1 : pM lst = 0 := by unfold pM pN pK pZ; rw [if_neg hp, if_neg hp]
        have e2 : (pC lst).length = 0 := by unfold pC; rw [if_neg hp]; rfl
        have hne : (prE lst != 0) = true := by rw [bne_iff_ne]; exact hp
        rw [e1] at HXt HBt
        have y5 := (HXt.out.cell 5).trans (show _ = some (Value.slice At 0 ct) from rfl)
        rw [e1, e2]
        generalize prE lst = er at *
        clear hp e1 e2
        go_wp2
        go_ret
        exact ⟨rfl, HBt.out⟩
      case pos =>
        obtain ⟨hsl, hrt, hll⟩ := slB_prE hp
        have hz : ∀ x, pZ lst x = x := fun x => by unfold pZ; rw [hp, if_pos rfl]
        have e1 : pN lst = atL lst 6 2 := hz _
        have e2 : pK lst = atL lst 8 2 := hz _
        have e3 : pS lst = atL lst 12 4 := hz _
        have e4 : pB lst = atL lst 16 4 := hz _
        have e5 : pI lst = atL lst 10 2 := hz _
        have e6 : pM lst = atL lst 6 2 + atL lst 8 2 := by unfold pM; rw [e1, e2]
        have e7 : pC lst = lst.drop (hL lst) := by unfold pC; rw [hp, if_pos rfl]
        rw [e1, e2, e3, e4, e5, e6] at HXt HGt HCt HBt
        rw [e7] at HCt
        rw [e1, e2, e3, e4, e5, e6, e7, hp]
        have hqd : qL lst = blkN (atL lst 12 4) (atL lst 16 4) := rfl
        have hhd : hL lst = hdN (atL lst 6 2) (atL lst 8 2) (qL lst) := rfl
        have hcl : (lst.drop (hL lst)).length = 8 + atL lst 12 4 := by rw [List.length_drop]; omega
        have hbd := hrt.bd
        have hh := smN_eq (qL lst) (atL lst 6 2) (atL lst 8 2)
        have hq1 : 1 * (qL lst * 4) ≤ (atL lst 6 2 + atL lst 8 2) * (qL lst * 4) := Nat.mul_le_mul_right _ (by omega)
        change _ ≤ smN (qL lst) (atL lst 6 2 + atL lst 8 2) at hq1
        have hlen := HR.out.row.len
        rw [← hhd] at hh
        have hw4 : Wf4 (atL lst 6 2 : Nat) (atL lst 8 2 : Nat) (atL lst 12 4 : Nat) (atL lst 16 4 : Nat) := ⟨wfI _ (by omega), wfI _ (by omega), wfI _ (by omega), wfI _ (by omega)⟩
        have HWr := Lib.hid (fun W (ht : Tab W) hG hC => Write_yes (n := atL lst 6 2) (k := atL lst 8 2) (s := atL lst 12 4) (b := atL lst 16 4) (i := atL lst 10 2) hw4 hrt.r hrt.ik (w := W) ht (A := At) (m := atL lst 6 2 + atL lst 8 2) (cap := ct) (RA := RAt) (RL := fun _ => qL lst) (RC := RCt) (R := tdR (lst.drop 20) (qL lst)) hG rfl (fun _ _ => hqd) (C := Ct) (L := (lst.drop (hL lst)).length) (cc := cct) (col := lst.drop (hL lst)) hC hcl (by rw [← hqd, ← hhd]; omega) (by omega) (by rw [← hqd]; omega))
        rw [hsl] at HWr
        rw [← hqd, ← hhd] at HWr
        have hT : hL lst + (lst.drop (hL lst)).length = lb := by omega
        rw [hT] at HWr
        have HT0 : ((0 : Int) != 0) = false := by decide
        generalize hg1 : atL lst 6 2 = v2 at *
        generalize hg2 : atL lst 8 2 = v3 at *
        generalize hg3 : atL lst 12 4 = v5 at *
        generalize hg4 : atL lst 16 4 = v6 at *
        generalize hg5 : atL lst 10 2 = v4 at *
        generalize (lst.drop (hL lst)).length = Lt at *
        clear hp hsl hrt hll hz e1 e2 e3 e4 e5 e6 e7 hqd hhd hcl hbd hh hq1 hlen hw4 hT hg1 hg2 hg3 hg4 hg5
        have y0 := (HXt.out.cell 0).trans (show _ = some (Value.int .i64 (v2 : Nat)) from rfl)
        have y1 := (HXt.out.cell 1).trans (show _ = some (Value.int .i64 (v3 : Nat)) from rfl)
        have y2 := (HXt.out.cell 2).trans (show _ = some (Value.int .i64 (v5 : Nat)) from rfl)
        have y3 := (HXt.out.cell 3).trans (show _ = some (Value.int .i64 (v6 : Nat)) from rfl)
        have y4 := (HXt.out.cell 4).trans (show _ = some (Value.int .i64 (v4 : Nat)) from rfl)
        have y5 := (HXt.out.cell 5).trans (show _ = some (Value.slice At (v2 + v3) ct) from rfl)
        go_wp2_with fail
        refine (HWr.out _ (HT.out.below HBt.out rfl) HGt.out HCt.out).mono ?_
        rintro e Wu ⟨Vu, cu, rfl, hownu, hbu⟩
        have HBu := Lib.hid (HBt.out.trans (hbu.mono HBt.out.size))
        have HVu := Lib.hid (own_in hownu)
        have HRu := Lib.hid (HR.out.below HBu.out)
        clear hownu hbu y0 y1 y2 y3 y4 y5
        go_wp2_with (go_at_call 12; refine (Same_c Vu Bb lb cu cb lst lst _ HVu.out.row HRu.out.row rfl).mono ?_; rintro e Wv ⟨rfl, qv, hqv⟩; have HBv := Lib.hid (show Below w.heap.size w Wv from hqv ▸ below_drewN HBu.out qv))
        go_ret
        exact ⟨rfl, below_drewN HBu.out _⟩
    | true =>
      have hD : wrD N K S B I n RL L := (HSM.out rfl).wrD
      obtain ⟨n', k', s', b', i', rfl, rfl, rfl, rfl, rfl, hr, hn, hRL, hL8, hh, hq⟩ := wrO_parts hw
      obtain ⟨d1, d2, d3⟩ := hD hw
      have d4 := hd_small (HSM.out rfl) hr hRL hn
      rw [hh] at d1
      rw [hq] at d3
      have hRl : ∀ r, r < n' + k' → (R r).length = blkN s' b' := fun r h9 => (HG.out.row r (by omega)).1.trans (hRL r (by omega))
      have hcl : col.length = 8 + s' := by rw [HC.out.row.len]; exact hL8
      have HBK : Hid (∀ W W' e, PrA W W' (slB n' k' s' b' i' R n col) e → ∃ Aw cw RAw RCw Cw ccw, e = .returned (.tuple #[.agg #[.int .i64 (n' : Int), .int .i64 (k' : Int), .int .i64 (s' : Int), .int .i64 (b' : Int), .int .i64 (i' : Int), .slice Aw n cw], .slice Cw L ccw, .int .i64 0]) ∧ GIn W' Aw n cw RAw (fun _ => blkN s' b') RCw R ∧ RowIn W' Cw L ccw col ∧ Below W.heap.size W W') := fun W W' e h => by
        rw [hn] at h
        obtain ⟨Aw, cw, RAw, RCw, Cw, ccw, h1, h2, h3, h5⟩ := PrA.back hr hRl hcl h
        rw [← hn] at h1 h2
        rw [HC.out.row.len] at h1 h3
        exact ⟨Aw, cw, RAw, RCw, Cw, ccw, h1, h2, h3, h5⟩
      have HTN : Hid (∀ a0, t ≠ 0 → 160 ≤ a0 → a0 + 32 ≤ 8 * hdN n' k' (blkN s' b') → ¬ prE (flips (slB n' k' s' b' i' R n col) a0 t 32) = 0) := fun a0 h1 h2 h3 => by rw [hn]; exact prE_turn hr hRl hcl h1 h2 h3
      have hbl : (slB n' k' s' b' i' R n col).length = hdN n' k' (blkN s' b') + L := by rw [hn, slB_length hRl, hcl, ← hL8]
      have HHd := Lib.hid (Head_yes HW.out hr.r)
      have hh24 : 24 ≤ hdN n' k' (blkN s' b') := by unfold hdN; omega
      have HWr := Lib.hid (fun W (ht : Tab W) hG hC => Write_yes HW.out hr.r hr.ik (w := W) ht (A := A) (m := n) (cap := cap) (RA := RA) (RL := RL) (RC := RC) (R := R) hG hn hRL (C := C) (L := L) (cc := cc) (col := col) hC hL8 d1 (by omega) d3)
      generalize hdN n' k' (blkN s' b') = H at *
      generalize slB n' k' s' b' i' R n col = bs at *
      have HBL := Lib.hid hbl
      clear hRl hcl hh hq d3 hD hw hn hRL hL8 hbl
      go_wp2_with fail
      refine (HWr.out _ (HT.out.below HB2.out rfl) (HG.out.below HB2.out) (HC.out.below HB2.out)).mono ?_
      rintro e W3 ⟨V3, c3, rfl, hown3, hb3⟩
      obtain ⟨T, hT⟩ : ∃ T, T = H + L := ⟨_, rfl⟩
      rw [← hT] at hown3 ⊢
      have hTI : IntKind.i64.wrap ((H : Int) + (L : Int)) = (T : Int) := (IntWalk.i64_in _ (by omega)).trans (by omega)
      have hT0 : 0 < T := by omega
      have hT9 : T ≤ 100000 := by omega
      obtain ⟨g, rfl, hgb⟩ : ∃ g, V3 = some ⟨g, 0, none⟩ ∧ w.heap.size < g := by
        rcases hown3.2 with ⟨_, h0⟩ | ⟨g, cp, cur, hv, hbg, _⟩
        · omega
        · injection hv with hv
          exact ⟨g, hv, by have := HX2.out.lt; omega⟩
      have HX3 := Lib.hid (HX2.out.below HX2.out.lt hb3)
      have HB3 := Lib.hid (HB2.out.trans (hb3.mono HB2.out.size))
      have HV3 := Lib.hid hown3
      have HTL := Lib.hid hT
      clear hown3 hb3 hT z0 z1 z2 z3 z4 z5 HX2 HB2 HWr
      go_wp2_with fail
      refine (Parse_c (HT.out.below HB3.out rfl) (own_in HV3.out) (by omega)).mono ?_
      rintro e W4 hpr
      obtain ⟨Aw, cw, RAw, RCw, Cw, ccw, rfl, hGw, hCw, hb4⟩ := HBK.out _ _ _ hpr
      have ha4 := (Below.refl W4.heap.size W4).alloc (Nat.le_refl _) (.cells #[.int .i64 (n' : Int), .int .i64 (k' : Int), .int .i64 (s' : Int), .int .i64 (b' : Int), .int .i64 (i' : Int), .slice Aw n cw] 26)
      have hb4' := hb4.trans (ha4.mono hb4.size)
      have HXs := Lib.hid (HX3.out.below HX3.out.lt hb4')
      have HYs := Lib.hid (Blk.new W4 26 #[.int .i64 (n' : Int), .int .i64 (k' : Int), .int .i64 (s' : Int), .int .i64 (b' : Int), .int .i64 (i' : Int), .slice Aw n cw])
      have HJs := Lib.hid (hGw.below ha4)
      have HDs := Lib.hid (hCw.below ha4)
      have HBs := Lib.hid (HB3.out.trans (hb4'.mono HB3.out.size))
      have HVs := Lib.hid (own_below HV3.out hb4')
      obtain ⟨xw, hxw⟩ : ∃ xw, xw = W4.heap.size := ⟨_, rfl⟩
      rw [← hxw] at HYs
      have HXW := Lib.hid hxw
      clear hpr hGw hCw hb4 hb4' ha4 hxw HX3 HB3 HV3 HBK
      go_wp2_with fail
      rw [← HXW.out]
      obtain ⟨W5, hW5⟩ : ∃ W5, W5 = W4.alloc (.cells #[.int .i64 (n' : Int), .int .i64 (k' : Int), .int .i64 (s' : Int), .int .i64 (b' : Int), .int .i64 (i' : Int), .slice Aw n cw] 26) := ⟨_, rfl⟩
      rw [← hW5] at HXs HYs HJs HDs HBs HVs ⊢
      clear hW5 HXW
      have eT : ((T : Int) != (T : Int)) = false := by simp
      have hbx : Below W5.heap.size W5 W5.drew := below_drewN (Below.refl _ _) 1
      have HXd := Lib.hid (HXs.out.below HXs.out.lt hbx)
      have HYd := Lib.hid (HYs.out.below HYs.out.lt hbx)
      have HBd := Lib.hid (HBs.out.trans (hbx.mono HBs.out.size))
      have HJd := Lib.hid (HJs.out.below hbx)
      have HDd := Lib.hid (HDs.out.below hbx)
      have HVd := Lib.hid (own_below HVs.out hbx)
      clear hbx
      refine wp_region_held_drew (S := fun W' => W'.cell? ⟨w.heap.size, 0, none⟩ = some (.int .i64 (n' : Int)) ∧ W'.cell? ⟨w.heap.size, 1, none⟩ = some (.int .i64 (k' : Int)) ∧ W'.cell? ⟨w.heap.size, 2, none⟩ = some (.int .i64 (s' : Int)) ∧ W'.cell? ⟨w.heap.size, 3, none⟩ = some (.int .i64 (b' : Int)) ∧ W'.cell? ⟨w.heap.size, 4, none⟩ = some (.int .i64 (i' : Int)) ∧ W'.cell? ⟨w.heap.size, 5, none⟩ = some (.slice A n cap) ∧ W'.cell? ⟨xw, 0, none⟩ = some (.int .i64 (n' : Int)) ∧ W'.cell? ⟨xw, 1, none⟩ = some (.int .i64 (k' : Int)) ∧ W'.cell? ⟨xw, 2, none⟩ = some (.int .i64 (s' : Int)) ∧ W'.cell? ⟨xw, 3, none⟩ = some (.int .i64 (b' : Int)) ∧ W'.cell? ⟨xw, 4, none⟩ = some (.int .i64 (i' : Int)) ∧ W'.cell? ⟨xw, 5, none⟩ = some (.slice Aw n cw)) (by kernel_rfl) ?_ (fun hHeld => ?_)
      · exact ⟨HXd.out.cell 0, HXd.out.cell 1, HXd.out.cell 2, HXd.out.cell 3, HXd.out.cell 4, HXd.out.cell 5, HYd.out.cell 0, HYd.out.cell 1, HYd.out.cell 2, HYd.out.cell 3, HYd.out.cell 4, HYd.out.cell 5⟩
      refine wpAnyH_take (i := 0) (oi := { dst := some 55, op := _, type := _, pos := _, after := _, guard := _ }) (v := ?_) rfl (by kernel_rfl) (by kernel_rfl) (by kernel_rfl) (fun _ _ _ h => h) (Or.inl ⟨by rfl, ?_⟩) (by assumption) ?_
      rotate_left
      · intro w' hSw
        try dsimp only at hSw
        go_simp
        try with_reducible rfl
      try simp only [Act.put, List.setIfInBounds_toArray, List.set_cons_zero, List.set_cons_succ]
      refine wpAnyH_take (i := 1) (oi := { dst := some 56, op := _, type := _, pos := _, after := _, guard := _ }) (v := ?_) rfl (by kernel_rfl) (by kernel_rfl) (by kernel_rfl) (fun _ _ _ h => h) (Or.inl ⟨by rfl, ?_⟩) (by assumption) ?_
      rotate_left
      · intro w' hSw
        try dsimp only at hSw
        go_simp
        try with_reducible rfl
      try simp only [Act.put, List.setIfInBounds_toArray, List.set_cons_zero, List.set_cons_succ]
      refine wpAnyH_take (i := 2) (oi := { dst := some 57, op := _, type := _, pos := _, after := _, guard := _ }) (v := ?_) rfl (by kernel_rfl) (by kernel_rfl) (by kernel_rfl) (fun _ _ _ h => h) (Or.inl ⟨by rfl, ?_⟩) (by assumption) ?_
      rotate_left
      · intro w' hSw
        try dsimp only at hSw
        go_simp
        try with_reducible rfl
      try simp only [Act.put, List.setIfInBounds_toArray, List.set_cons_zero, List.set_cons_succ]
      refine wpAnyH_take (i := 3) (oi := { dst := some 58, op := _, type := _, pos := _, after := _, guard := _ }) (v := ?_) rfl (by kernel_rfl) (by kernel_rfl) (by kernel_rfl) (fun _ _ _ h => h) (Or.inl ⟨by rfl, ?_⟩) (by assumption) ?_
      rotate_left
      · intro w' hSw
        try dsimp only at hSw
        go_simp
        try with_reducible rfl
      try simp only [Act.put, List.setIfInBounds_toArray, List.set_cons_zero, List.set_cons_succ]
      refine wpAnyH_take (i := 5) (oi := { dst := some 60, op := _, type := _, pos := _, after := _, guard := _ }) (v := ?_) rfl (by kernel_rfl) (by kernel_rfl) (by kernel_rfl) (fun _ _ _ h => h) (Or.inl ⟨by rfl, ?_⟩) (by assumption) ?_
      rotate_left
      · intro w' hSw
        try dsimp only at hSw
        go_simp
        try with_reducible rfl
      try simp only [Act.put, List.setIfInBounds_toArray, List.set_cons_zero, List.set_cons_succ]
      refine wpAnyH_ready (rs := [4]) (by kernel_rfl) (by simp) ?_
      refine AllReadyH.cons (o := { dst := some 59, op := _, type := _, pos := _, after := _, guard := _ }) rfl (fun K hK => ?_) AllReadyH.nil
      go_simp
      go_at_call 11
      refine (as_c n' k' s' b' i' Aw n cw _).mono ?_
      rintro e Wt ⟨rfl, hbx⟩
      try go_wp2_with fail
      have HXt := Lib.hid (HXd.out.below HXd.out.lt hbx)
      have HYt := Lib.hid (HYd.out.below HYd.out.lt hbx)
      have HBt := Lib.hid (HBd.out.trans (hbx.mono HBd.out.size))
      have HJt := Lib.hid (HJd.out.below hbx)
      have HDt := Lib.hid (HDd.out.below hbx)
      have HVt := Lib.hid (own_below HVd.out hbx)
      clear hbx
      refine hK.out _ _ ?_ (fun hHeld => ?_)
      · exact ⟨HXt.out.cell 0, HXt.out.cell 1, HXt.out.cell 2, HXt.out.cell 3, HXt.out.cell 4, HXt.out.cell 5, HYt.out.cell 0, HYt.out.cell 1, HYt.out.cell 2, HYt.out.cell 3, HYt.out.cell 4, HYt.out.cell 5⟩
      clear hK K
      try simp only [Act.put, List.setIfInBounds_toArray, List.set_cons_zero, List.set_cons_succ]
      refine wpAnyH_ready (rs := [6]) (by kernel_rfl) (by simp) ?_
      refine AllReadyH.cons (o := { dst := some 61, op := _, type := _, pos := _, after := _, guard := _ }) rfl (fun K hK => ?_) AllReadyH.nil
      go_simp
      go_at_call 11
      refine (as_c n' k' s' b' i' A n cap _).mono ?_
      rintro e Wu ⟨rfl, hbx⟩
      try go_wp2_with fail
      have HXu := Lib.hid (HXt.out.below HXt.out.lt hbx)
      have HYu := Lib.hid (HYt.out.below HYt.out.lt hbx)
      have HBu := Lib.hid (HBt.out.trans (hbx.mono HBt.out.size))
      have HJu := Lib.hid (HJt.out.below hbx)
      have HDu := Lib.hid (HDt.out.below hbx)
      have HVu := Lib.hid (own_below HVt.out hbx)
      clear hbx
      refine hK.out _ _ ?_ (fun hHeld => ?_)
      · exact ⟨HXu.out.cell 0, HXu.out.cell 1, HXu.out.cell 2, HXu.out.cell 3, HXu.out.cell 4, HXu.out.cell 5, HYu.out.cell 0, HYu.out.cell 1, HYu.out.cell 2, HYu.out.cell 3, HYu.out.cell 4, HYu.out.cell 5⟩
      clear hK K
      try simp only [Act.put, List.setIfInBounds_toArray, List.set_cons_zero, List.set_cons_succ]
      refine wpAnyH_ready (rs := [7]) (by kernel_rfl) (by simp) ?_
      refine AllReadyH.cons (o := { dst := some 62, op := _, type := _, pos := _, after := _, guard := _ }) rfl (fun K hK => ?_) AllReadyH.nil
      go_simp
      go_at_call 21
      refine (same_c n' k' s' b' i' HJu.out (HG.out.below HBu.out) (fun _ _ => rfl)).mono ?_
      rintro e Wv ⟨rfl, hbx⟩
      try go_wp2_with fail
      have HXv := Lib.hid (HXu.out.below HXu.out.lt hbx)
      have HYv := Lib.hid (HYu.out.below HYu.out.lt hbx)
      have HBv := Lib.hid (HBu.out.trans (hbx.mono HBu.out.size))
      have HJv := Lib.hid (HJu.out.below hbx)
      have HDv := Lib.hid (HDu.out.below hbx)
      have HVv := Lib.hid (own_below HVu.out hbx)
      clear hbx
      refine hK.out _ _ ?_ (fun hHeld => ?_)
      · exact ⟨HXv.out.cell 0, HXv.out.cell 1, HXv.out.cell 2, HXv.out.cell 3, HXv.out.cell 4, HXv.out.cell 5, HYv.out.cell 0, HYv.out.cell 1, HYv.out.cell 2, HYv.out.cell 3, HYv.out.cell 4, HYv.out.cell 5⟩
      clear hK K
      try simp only [Act.put, List.setIfInBounds_toArray, List.set_cons_zero, List.set_cons_succ]
      refine wpAnyH_take (i := 8) (oi := { dst := some 63, op := _, type := _, pos := _, after := _, guard := _ }) (v := ?_) rfl (by kernel_rfl) (by kernel_rfl) (by kernel_rfl) (fun _ _ _ h => h) (Or.inl ⟨by rfl, ?_⟩) (by assumption) ?_
      rotate_left
      · intro w' hSw
        try dsimp only at hSw
        go_simp
        try with_reducible rfl
      try simp only [Act.put, List.setIfInBounds_toArray, List.set_cons_zero, List.set_cons_succ]
      refine wpAnyH_take (i := 9) (oi := { dst := some 64, op := _, type := _, pos := _, after := _, guard := _ }) (v := ?_) rfl (by kernel_rfl) (by kernel_rfl) (by kernel_rfl) (fun _ _ _ h => h) (Or.inl ⟨by rfl, ?_⟩) (by assumption) ?_
      rotate_left
      · intro w' hSw
        try dsimp only at hSw
        go_simp
        try with_reducible rfl
      try simp only [Act.put, List.setIfInBounds_toArray, List.set_cons_zero, List.set_cons_succ]
      refine wpAnyH_take (i := 10) (oi := { dst := some 65, op := _, type := _, pos := _, after := _, guard := _ }) (v := ?_) rfl (by kernel_rfl) (by kernel_rfl) (by kernel_rfl) (fun _ _ _ h => h) (Or.inl ⟨by rfl, ?_⟩) (by assumption) ?_
      rotate_left
      · intro w' hSw
        try dsimp only at hSw
        go_simp
        try with_reducible rfl
      try simp only [Act.put, List.setIfInBounds_toArray, List.set_cons_zero, List.set_cons_succ]
      refine wpAnyH_take (i := 11) (oi := { dst := some 66, op := _, type := _, pos := _, after := _, guard := _ }) (v := ?_) rfl (by kernel_rfl) (by kernel_rfl) (by kernel_rfl) (fun _ _ _ h => h) (Or.inl ⟨by rfl, ?_⟩) (by assumption) ?_
      rotate_left
      · intro w' hSw
        try dsimp only at hSw
        go_simp
        try with_reducible rfl
      try simp only [Act.put, List.setIfInBounds_toArray, List.set_cons_zero, List.set_cons_succ]
      refine wpAnyH_take (i := 12) (oi := { dst := some 67, op := _, type := _, pos := _, after := _, guard := _ }) (v := ?_) rfl (by kernel_rfl) (by kernel_rfl) (by kernel_rfl) (fun _ _ _ h => h) (Or.inl ⟨by rfl, ?_⟩) (by assumption) ?_
      rotate_left
      · intro w' hSw
        try dsimp only at hSw
        go_simp
        try with_reducible rfl
      try simp only [Act.put, List.setIfInBounds_toArray, List.set_cons_zero, List.set_cons_succ]
      refine wpAnyH_ready (rs := [13]) (by kernel_rfl) (by simp) ?_
      refine AllReadyH.cons (o := { dst := some 68, op := _, type := _, pos := _, after := _, guard := _ }) rfl (fun K hK => ?_) AllReadyH.nil
      go_simp
      go_at_call 12
      refine (Same_c Cw C L ccw cc col col _ HDv.out.row (HC.out.below HBv.out).row rfl).mono ?_
      rintro e _ ⟨rfl, q13, rfl⟩
      try go_wp2_with fail
      have hbx := below_drewN (Below.refl Wv.heap.size Wv) q13
      have HXy := Lib.hid (HXv.out.below HXv.out.lt hbx)
      have HYy := Lib.hid (HYv.out.below HYv.out.lt hbx)
      have HBy := Lib.hid (HBv.out.trans (hbx.mono HBv.out.size))
      have HJy := Lib.hid (HJv.out.below hbx)
      have HDy := Lib.hid (HDv.out.below hbx)
      have HVy := Lib.hid (own_below HVv.out hbx)
      clear hbx
      refine hK.out _ _ ?_ (fun hHeld => ?_)
      · exact ⟨HXy.out.cell 0, HXy.out.cell 1, HXy.out.cell 2, HXy.out.cell 3, HXy.out.cell 4, HXy.out.cell 5, HYy.out.cell 0, HYy.out.cell 1, HYy.out.cell 2, HYy.out.cell 3, HYy.out.cell 4, HYy.out.cell 5⟩
      clear hK K
      try simp only [Act.put, List.setIfInBounds_toArray, List.set_cons_zero, List.set_cons_succ]
      refine wpAnyH_take (i := 14) (oi := { dst := some 69, op := _, type := _, pos := _, after := _, guard := _ }) (v := ?_) rfl (by kernel_rfl) (by kernel_rfl) (by kernel_rfl) (fun _ _ _ h => h) (Or.inl ⟨by rfl, ?_⟩) (by assumption) ?_
      rotate_left
      · intro w' hSw
        try dsimp only at hSw
        go_simp
        try with_reducible rfl
      try simp only [Act.put, List.setIfInBounds_toArray, List.set_cons_zero, List.set_cons_succ]
      refine wpAnyH_take (i := 15) (oi := { dst := some 70, op := _, type := _, pos := _, after := _, guard := _ }) (v := ?_) rfl (by kernel_rfl) (by kernel_rfl) (by kernel_rfl) (fun _ _ _ h => h) (Or.inl ⟨by rfl, ?_⟩) (by assumption) ?_
      rotate_left
      · intro w' hSw
        try dsimp only at hSw
        go_simp
        try with_reducible rfl
      try simp only [Act.put, List.setIfInBounds_toArray, List.set_cons_zero, List.set_cons_succ]
      refine wpAnyH_take (i := 16) (oi := { dst := some 71, op := _, type := _, pos := _, after := _, guard := _ }) (v := ?_) rfl (by kernel_rfl) (by kernel_rfl) (by kernel_rfl) (fun _ _ _ h => h) (Or.inl ⟨by rfl, ?_⟩) (by assumption) ?_
      rotate_left
      · intro w' hSw
        try dsimp only at hSw
        go_simp
        try with_reducible rfl
      try simp only [Act.put, List.setIfInBounds_toArray, List.set_cons_zero, List.set_cons_succ]
      refine wpAnyH_take (i := 17) (oi := { dst := some 72, op := _, type := _, pos := _, after := _, guard := _ }) (v := ?_) rfl (by kernel_rfl) (by kernel_rfl) (by kernel_rfl) (fun _ _ _ h => h) (Or.inl ⟨by rfl, ?_⟩) (by assumption) ?_
      rotate_left
      · intro w' hSw
        try dsimp only at hSw
        go_simp
        try with_reducible rfl
      try simp only [Act.put, List.setIfInBounds_toArray, List.set_cons_zero, List.set_cons_succ]
      refine wpAnyH_take (i := 18) (oi := { dst := some 73, op := _, type := _, pos := _, after := _, guard := _ }) (v := ?_) rfl (by kernel_rfl) (by kernel_rfl) (by kernel_rfl) (fun _ _ _ h => h) (Or.inl ⟨by rfl, ?_⟩) (by assumption) ?_
      rotate_left
      · intro w' hSw
        try dsimp only at hSw
        go_simp
        try with_reducible rfl
      try simp only [Act.put, List.setIfInBounds_toArray, List.set_cons_zero, List.set_cons_succ]
      refine wpAnyH_take (i := 19) (oi := { dst := some 74, op := _, type := _, pos := _, after := _, guard := _ }) (v := ?_) rfl (by kernel_rfl) (by kernel_rfl) (by kernel_rfl) (fun _ _ _ h => h) (Or.inl ⟨by rfl, ?_⟩) (by assumption) ?_
      rotate_left
      · intro w' hSw
        try dsimp only at hSw
        go_simp
        try with_reducible rfl
      try simp only [Act.put, List.setIfInBounds_toArray, List.set_cons_zero, List.set_cons_succ]
      refine wpAnyH_take (i := 20) (oi := { dst := some 75, op := _, type := _, pos := _, after := _, guard := _ }) (v := ?_) rfl (by kernel_rfl) (by kernel_rfl) (by kernel_rfl) (fun _ _ _ h => h) (Or.inl ⟨by rfl, ?_⟩) (by assumption) ?_
      rotate_left
      · intro w' hSw
        try dsimp only at hSw
        go_simp
        try with_reducible rfl
      try simp only [Act.put, List.setIfInBounds_toArray, List.set_cons_zero, List.set_cons_succ]
      refine wpAnyH_take (i := 22) (oi := { dst := some 77, op := _, type := _, pos := _, after := _, guard := _ }) (v := ?_) rfl (by kernel_rfl) (by kernel_rfl) (by kernel_rfl) (fun _ _ _ h => h) (Or.inl ⟨by rfl, ?_⟩) (by assumption) ?_
      rotate_left
      · intro w' hSw
        try dsimp only at hSw
        go_simp
        try with_reducible rfl
      try simp only [Act.put, List.setIfInBounds_toArray, List.set_cons_zero, List.set_cons_succ]
      refine wpAnyH_take (i := 23) (oi := { dst := some 78, op := _, type := _, pos := _, after := _, guard := _ }) (v := ?_) rfl (by kernel_rfl) (by kernel_rfl) (by kernel_rfl) (fun _ _ _ h => h) (Or.inl ⟨by rfl, ?_⟩) (by assumption) ?_
      rotate_left
      · intro w' hSw
        try dsimp only at hSw
        go_simp
        try with_reducible rfl
      try simp only [Act.put, List.setIfInBounds_toArray, List.set_cons_zero, List.set_cons_succ]
      refine wpAnyH_ready (rs := [21]) (by kernel_rfl) (by simp) ?_
      refine AllReadyH.cons (o := { dst := some 76, op := _, type := _, pos := _, after := _, guard := _ }) rfl (fun K hK => ?_) AllReadyH.nil
      go_simp
      go_at_call 14
      refine (HHd.out _).mono ?_
      rintro e Wz ⟨rfl, hbx⟩
      try go_wp2_with fail
      have HXz := Lib.hid (HXy.out.below HXy.out.lt hbx)
      have HYz := Lib.hid (HYy.out.below HYy.out.lt hbx)
      have HBz := Lib.hid (HBy.out.trans (hbx.mono HBy.out.size))
      have HJz := Lib.hid (HJy.out.below hbx)
      have HDz := Lib.hid (HDy.out.below hbx)
      have HVz := Lib.hid (own_below HVy.out hbx)
      clear hbx
      refine hK.out _ _ ?_ (fun hHeld => ?_)
      · exact ⟨HXz.out.cell 0, HXz.out.cell 1, HXz.out.cell 2, HXz.out.cell 3, HXz.out.cell 4, HXz.out.cell 5, HYz.out.cell 0, HYz.out.cell 1, HYz.out.cell 2, HYz.out.cell 3, HYz.out.cell 4, HYz.out.cell 5⟩
      clear hK K
      try simp only [Act.put, List.setIfInBounds_toArray, List.set_cons_zero, List.set_cons_succ]
      refine wpAnyH_take (i := 24) (oi := { dst := some 79, op := _, type := _, pos := _, after := _, guard := _ }) (v := ?_) rfl (by kernel_rfl) (by kernel_rfl) (by kernel_rfl) (fun _ _ _ h => h) (Or.inl ⟨by rfl, ?_⟩) (by assumption) ?_
      rotate_left
      · intro w' hSw
        try dsimp only at hSw
        go_simp
        try with_reducible rfl
      try simp only [Act.put, List.setIfInBounds_toArray, List.set_cons_zero, List.set_cons_succ]
      refine wpAnyH_take (i := 25) (oi := { dst := some 80, op := _, type := _, pos := _, after := _, guard := _ }) (v := ?_) rfl (by kernel_rfl) (by kernel_rfl) (by kernel_rfl) (fun _ _ _ h => h) (Or.inl ⟨by rfl, ?_⟩) (by assumption) ?_
      rotate_left
      · intro w' hSw
        try dsimp only at hSw
        go_simp
        try with_reducible rfl
      try simp only [Act.put, List.setIfInBounds_toArray, List.set_cons_zero, List.set_cons_succ]
      refine wpAnyH_take (i := 26) (oi := { dst := some 81, op := _, type := _, pos := _, after := _, guard := _ }) (v := ?_) rfl (by kernel_rfl) (by kernel_rfl) (by kernel_rfl) (fun _ _ _ h => h) (Or.inl ⟨by rfl, ?_⟩) (by assumption) ?_
      rotate_left
      · intro w' hSw
        try dsimp only at hSw
        go_simp
        try with_reducible rfl
      try simp only [Act.put, List.setIfInBounds_toArray, List.set_cons_zero, List.set_cons_succ]
      refine wpAnyH_done (by kernel_rfl) ?_ _
      have x0 := (HXz.out.cell 0).trans (show _ = some (Value.int .i64 (n' : Int)) from rfl)
      have x1 := (HXz.out.cell 1).trans (show _ = some (Value.int .i64 (k' : Int)) from rfl)
      have x2 := (HXz.out.cell 2).trans (show _ = some (Value.int .i64 (s' : Int)) from rfl)
      have x3 := (HXz.out.cell 3).trans (show _ = some (Value.int .i64 (b' : Int)) from rfl)
      have x4 := (HXz.out.cell 4).trans (show _ = some (Value.int .i64 (i' : Int)) from rfl)
      have x5 := (HXz.out.cell 5).trans (show _ = some (Value.slice A n cap) from rfl)
      go_wp2_with fail
      refine (HHd.out _).mono ?_
      rintro e W6 ⟨rfl, hb6⟩
      have HB6 := Lib.hid (HBz.out.trans (hb6.mono HBz.out.size))
      have HV6 := Lib.hid (own_below HVz.out hb6)
      clear hb6 x0 x1 x2 x3 x4 x5 HXz HYz HJz HDz HBz HVz
      obtain ⟨z, hz, ez⟩ := andM a 65535 (by omega)
      have ez2 : bits BinOp.and IntKind.i64 a 65535 = (z : Int) := ez
      clear ez
      obtain ⟨d, hd⟩ : ∃ d, d = H - 24 := ⟨_, rfl⟩
      have hd1 : (H : Int) - 24 = (d : Int) := by omega
      obtain ⟨d8, hd8⟩ : ∃ d8, d8 = 8 * d := ⟨_, rfl⟩
      have hd81 : 8 * (d : Int) = (d8 : Int) := by omega
      obtain ⟨nn, hnn⟩ : ∃ nn, nn = d8 + 1 := ⟨_, rfl⟩
      have hnn1 : (d8 : Int) + 1 = (nn : Int) := by omega
      obtain ⟨at_, hat⟩ : ∃ a, a = z % nn := ⟨_, rfl⟩
      have hat1 : (z : Int) % (nn : Int) = (at_ : Int) := by omega
      have hat2 : (z : Int).tmod (nn : Int) = (at_ : Int) := by rw [Int.tmod_eq_emod_of_nonneg (by omega)]; exact hat1
      have hlt : at_ < nn := by rw [hat]; exact Nat.mod_lt _ (by omega)
      have hnn0 : ((nn : Int) == 0) = false := by rw [beq_eq_false_iff_ne]; omega
      obtain ⟨at2, hat3⟩ : ∃ a2, a2 = 160 + at_ := ⟨_, rfl⟩
      have hat4 : (160 : Int) + (at_ : Int) = (at2 : Int) := by omega
      have hfit : at2 + 32 ≤ 8 * H := by omega
      have h160 : 160 ≤ at2 := by omega
      have hfT : at2 + 32 ≤ 8 * T := by have := HTL.out; omega
      have s1 : IntKind.i64.wrap ((H : Int) - 24) = (d : Int) := (IntWalk.i64_in _ (by omega)).trans hd1
      have s2 : IntKind.i64.wrap (8 * (d : Int)) = (d8 : Int) := (IntWalk.i64_in _ (by omega)).trans hd81
      have s3 : IntKind.i64.wrap ((d8 : Int) + 1) = (nn : Int) := (IntWalk.i64_in _ (by omega)).trans hnn1
      have s4 : IntKind.i64.wrap ((160 : Int) + (at_ : Int)) = (at2 : Int) := (IntWalk.i64_in _ (by omega)).trans hat4
      have hbnd : at2 ≤ 1000000 := by omega
      have HFIT := Lib.hid hfit
      have HLENB := HBL
      clear hat hd hd8 hnn hat1 hd1 hd81 hnn1 hat3 hat4 hfit
      go_wp2
      go_loopw [93] (fun i wr => ∃ k : Nat, k ≤ 32 ∧ i = .int .i64 k ∧ Hid (wr.ownsRow (W2.heap.size + 1) 5 1 (.slice (some ⟨g, 0, none⟩) T c3) T (cs (flips bs at2 t k))) ∧ Hid (Below w.heap.size w wr)) (fun i _ => 32 - (intOf i).toNat)
      case atStart => exact ⟨0, by omega, rfl, HV6, HB6⟩
      case round =>
        obtain ⟨k, hk, rfl, hownH, hbelH⟩ := hrel
        by_cases hlt2 : k < 32
        · have hk32 : (k : Int) < 32 := by omega
          have hbit := bitG_i t k
          by_cases hb : bitG t k = true
          · rw [hb] at hbit
            have HB := Lib.hid hb
            clear hb
            obtain ⟨q, hq⟩ : ∃ q, q = (at2 + k) / 8 := ⟨_, rfl⟩
            obtain ⟨r, hr⟩ : ∃ r, r = (at2 + k) % 8 := ⟨_, rfl⟩
            have hqn : q < T := by omega
            have hr8 : r < 8 := by omega
            have hr80 : 0 ≤ (r : Int) := by omega
            have hlen := own_len6 hownH.out
            have hcell := hownH.out.cellAt q (by omega)
            rw [cs_at (by omega)] at hcell
            have hfz := hownH.out.frozenAt q
            have hqi : (q : Int) < T := by omega
            have HQ := Lib.hid hq
            have HRr := Lib.hid hr
            clear hq hr hlen
            go_wp2
            have hq1 : ((at2 : Int) + (k : Int)) / 8 = (q : Int) := by have := HQ.out; omega
            have hr1 : ((at2 : Int) + (k : Int)) % 8 = (r : Int) := by have := HRr.out; omega
            have hq2 : ((at2 : Int) + (k : Int)).tdiv 8 = (q : Int) := by rw [Int.tdiv_eq_ediv_of_nonneg (by omega)]; exact hq1
            have hr2 : ((at2 : Int) + (k : Int)).tmod 8 = (r : Int) := by rw [Int.tmod_eq_emod_of_nonneg (by omega)]; exact hr1
            have hq3 : IntKind.i64.wrap (q : Int) = (q : Int) := IntWalk.i64_in _ (by omega)
            have hr3 : IntKind.i64.wrap (r : Int) = (r : Int) := IntWalk.i64_in _ (by omega)
            have hx : bits BinOp.xor IntKind.u8 ((gt (flips bs at2 t k) q).n : Int) (2 ^ r % 256) = ((gt (flips bs at2 t k) q + ofN (2 ^ r)).n : Int) := by
              have h1 : (2 : Nat) ^ r < 256 := by
                have := Nat.pow_lt_pow_right (a := 2) (by omega) hr8
                simpa using this
              have h2 : ((2 : Int) ^ r % 256) = ((2 ^ r : Nat) : Int) := by
                have h3 : ((2 ^ r : Nat) : Int) = (2 : Int) ^ r := by simp
                rw [← h3]
                exact Int.emod_eq_of_lt (Int.natCast_nonneg _) (by exact_mod_cast h1)
              rw [h2, u8_xor_nat _ _ (F.lt _) h1, add_n, ofN_n _ h1]
            have hst := Lib.hid (hownH.out.stored q (.int .u8 (gt (flips bs at2 t k) q + ofN (2 ^ r)).n)).1
            have hnx : Hid (flips bs at2 t (k + 1) = (flips bs at2 t k).set q (gt (flips bs at2 t k) q + ofN (2 ^ r))) := by
              show (if bitG t k then flip (flips bs at2 t k) (at2 + k) else flips bs at2 t k) = _
              rw [if_pos HB.out]
              unfold flip
              rw [← HQ.out, ← HRr.out]
              rfl
            go_region
            go_wp2
            go_roundw
            case rel =>
              refine ⟨k + 1, by omega, by go_num, ?_, below_drewN (hbelH.out.setCell (by show w.heap.size ≤ g; omega) _) 1⟩
              have h := hst.out
              rw [cs_set6, ← hnx.out] at h
              exact h
            case measure => simp [intOf]; omega
          · have hbf : bitG t k = false := by simpa using hb
            rw [hbf] at hbit
            have hnx : Hid (flips bs at2 t (k + 1) = flips bs at2 t k) := by
              show (if bitG t k then flip (flips bs at2 t k) (at2 + k) else flips bs at2 t k) = _
              rw [if_neg hb]
            clear hb hbf
            go_wp2
            go_roundw
            case rel => exact ⟨k + 1, by omega, by go_num, by rw [hnx.out]; exact hownH, hbelH⟩
            case measure => simp [intOf]; omega
        · obtain rfl : k = 32 := by omega
          have hk32 : ¬ ((32 : Nat) : Int) < 32 := by omega
          have hTN := fun h0 : t ≠ 0 => HTN.out at2 h0 h160 HFIT.out
          have HP8 := Lib.hid (Parse_c (HT.out.below hbelH.out rfl) (own_in hownH.out) (by omega))
          unfold PrA at HP8
          generalize prE (flips bs at2 t 32) = e8 at *
          go_wp2_with fail
          refine HP8.out.mono ?_
          rintro e W8 ⟨A8, c8, RA8, RC8, C8, cc8, rfl, _, _, hb8⟩
          have HB8 := Lib.hid (hbelH.out.trans ((hb8.trans (((Below.refl W8.heap.size W8).alloc (Nat.le_refl _) (.cells #[.int .i64 (pN (flips bs at2 t 32) : Nat), .int .i64 (pK (flips bs at2 t 32) : Nat), .int .i64 (pS (flips bs at2 t 32) : Nat), .int .i64 (pB (flips bs at2 t 32) : Nat), .int .i64 (pI (flips bs at2 t 32) : Nat), .slice A8 (pM (flips bs at2 t 32)) c8] 26)).mono hb8.size)).mono hbelH.out.size))
          clear hb8 hownH hbelH HP8
          by_cases h0 : t = 0
          case pos =>
            have e0 : ((t.n : Int) != 0) = false := by rw [h0]; rfl
            clear h0 hTN
            go_wp2_with fail
            refine (Parse_c (HT.out.below HB8.out rfl) (HR.out.below HB8.out) (by omega)).mono ?_
            rintro e Wt ⟨At, ct, RAt, RCt, Ct, cct, rfl, hGt, hCt, hbt⟩
            have hat := (Below.refl Wt.heap.size Wt).alloc (Nat.le_refl _) (.cells #[.int .i64 (pN lst : Nat), .int .i64 (pK lst : Nat), .int .i64 (pS lst : Nat), .int .i64 (pB lst : Nat), .int .i64 (pI lst : Nat), .slice At (pM lst) ct] 26)
            have HXt := Lib.hid (Blk.new Wt 26 #[.int .i64 (pN lst : Nat), .int .i64 (pK lst : Nat), .int .i64 (pS lst : Nat), .int .i64 (pB lst : Nat), .int .i64 (pI lst : Nat), .slice At (pM lst) ct])
            have HGt := Lib.hid (hGt.below hat)
            have HCt := Lib.hid (hCt.below hat)
            have HBt := Lib.hid (HB8.out.trans ((hbt.trans (hat.mono hbt.size)).mono HB8.out.size))
            clear hGt hCt hbt hat
            by_cases hp : prE lst = 0
            case neg =>
              have e1 : pM lst = 0 := by unfold pM pN pK pZ; rw [if_neg hp, if_neg hp]
              have e2 : (pC lst).length = 0 := by unfold pC; rw [if_neg hp]; rfl
              have hne : (prE lst != 0) = true := by rw [bne_iff_ne]; exact hp
              rw [e1] at HXt HBt
              have y5 := (HXt.out.cell 5).trans (show _ = some (Value.slice At 0 ct) from rfl)
              rw [e1, e2]
              generalize prE lst = er at *
              clear hp e1 e2
              go_wp2
              go_ret
              exact ⟨rfl, HBt.out⟩
            case pos =>
              obtain ⟨hsl, hrt, hll⟩ := slB_prE hp
              have hz : ∀ x, pZ lst x = x := fun x => by unfold pZ; rw [hp, if_pos rfl]
              have e1 : pN lst = atL lst 6 2 := hz _
              have e2 : pK lst = atL lst 8 2 := hz _
              have e3 : pS lst = atL lst 12 4 := hz _
              have e4 : pB lst = atL lst 16 4 := hz _
              have e5 : pI lst = atL lst 10 2 := hz _
              have e6 : pM lst = atL lst 6 2 + atL lst 8 2 := by unfold pM; rw [e1, e2]
              have e7 : pC lst = lst.drop (hL lst) := by unfold pC; rw [hp, if_pos rfl]
              rw [e1, e2, e3, e4, e5, e6] at HXt HGt HCt HBt
              rw [e7] at HCt
              rw [e1, e2, e3, e4, e5, e6, e7, hp]
              have hqd : qL lst = blkN (atL lst 12 4) (atL lst 16 4) := rfl
              have hhd : hL lst = hdN (atL lst 6 2) (atL lst 8 2) (qL lst) := rfl
              have hcl : (lst.drop (hL lst)).length = 8 + atL lst 12 4 := by rw [List.length_drop]; omega
              have hbd := hrt.bd
              have hh := smN_eq (qL lst) (atL lst 6 2) (atL lst 8 2)
              have hq1 : 1 * (qL lst * 4) ≤ (atL lst 6 2 + atL lst 8 2) * (qL lst * 4) := Nat.mul_le_mul_right _ (by omega)
              change _ ≤ smN (qL lst) (atL lst 6 2 + atL lst 8 2) at hq1
              have hlen := HR.out.row.len
              rw [← hhd] at hh
              have hw4 : Wf4 (atL lst 6 2 : Nat) (atL lst 8 2 : Nat) (atL lst 12 4 : Nat) (atL lst 16 4 : Nat) := ⟨wfI _ (by omega), wfI _ (by omega), wfI _ (by omega), wfI _ (by omega)⟩
              have HWr := Lib.hid (fun W (ht : Tab W) hG hC => Write_yes (n := atL lst 6 2) (k := atL lst 8 2) (s := atL lst 12 4) (b := atL lst 16 4) (i := atL lst 10 2) hw4 hrt.r hrt.ik (w := W) ht (A := At) (m := atL lst 6 2 + atL lst 8 2) (cap := ct) (RA := RAt) (RL := fun _ => qL lst) (RC := RCt) (R := tdR (lst.drop 20) (qL lst)) hG rfl (fun _ _ => hqd) (C := Ct) (L := (lst.drop (hL lst)).length) (cc := cct) (col := lst.drop (hL lst)) hC hcl (by rw [← hqd, ← hhd]; omega) (by omega) (by rw [← hqd]; omega))
              rw [hsl] at HWr
              rw [← hqd, ← hhd] at HWr
              have hT : hL lst + (lst.drop (hL lst)).length = lb := by omega
              rw [hT] at HWr
              have HT0 : ((0 : Int) != 0) = false := by decide
              generalize hg1 : atL lst 6 2 = v2 at *
              generalize hg2 : atL lst 8 2 = v3 at *
              generalize hg3 : atL lst 12 4 = v5 at *
              generalize hg4 : atL lst 16 4 = v6 at *
              generalize hg5 : atL lst 10 2 = v4 at *
              generalize (lst.drop (hL lst)).length = Lt at *
              clear hp hsl hrt hll hz e1 e2 e3 e4 e5 e6 e7 hqd hhd hcl hbd hh hq1 hlen hw4 hT hg1 hg2 hg3 hg4 hg5
              have y0 := (HXt.out.cell 0).trans (show _ = some (Value.int .i64 (v2 : Nat)) from rfl)
              have y1 := (HXt.out.cell 1).trans (show _ = some (Value.int .i64 (v3 : Nat)) from rfl)
              have y2 := (HXt.out.cell 2).trans (show _ = some (Value.int .i64 (v5 : Nat)) from rfl)
              have y3 := (HXt.out.cell 3).trans (show _ = some (Value.int .i64 (v6 : Nat)) from rfl)
              have y4 := (HXt.out.cell 4).trans (show _ = some (Value.int .i64 (v4 : Nat)) from rfl)
              have y5 := (HXt.out.cell 5).trans (show _ = some (Value.slice At (v2 + v3) ct) from rfl)
              go_wp2_with fail
              refine (HWr.out _ (HT.out.below HBt.out rfl) HGt.out HCt.out).mono ?_
              rintro e Wu ⟨Vu, cu, rfl, hownu, hbu⟩
              have HBu := Lib.hid (HBt.out.trans (hbu.mono HBt.out.size))
              have HVu := Lib.hid (own_in hownu)
              have HRu := Lib.hid (HR.out.below HBu.out)
              clear hownu hbu y0 y1 y2 y3 y4 y5
              go_wp2_with (go_at_call 12; refine (Same_c Vu Bb lb cu cb lst lst _ HVu.out.row HRu.out.row rfl).mono ?_; rintro e Wv ⟨rfl, qv, hqv⟩; have HBv := Lib.hid (show Below w.heap.size w Wv from hqv ▸ below_drewN HBu.out qv))
              go_ret
              exact ⟨rfl, below_drewN HBu.out _⟩
          case neg =>
            have e0 : ((t.n : Int) != 0) = true := by
              rw [bne_iff_ne]
              intro e
              exact h0 (g_eq_zero.1 (by omega))
            have e8n : (e8 == 0) = false := by rw [beq_eq_false_iff_ne]; exact hTN h0
            clear h0 hTN
            go_wp2_with fail
            refine (Parse_c (HT.out.below HB8.out rfl) (HR.out.below HB8.out) (by omega)).mono ?_
            rintro e Wt ⟨At, ct, RAt, RCt, Ct, cct, rfl, hGt, hCt, hbt⟩
            have hat := (Below.refl Wt.heap.size Wt).alloc (Nat.le_refl _) (.cells #[.int .i64 (pN lst : Nat), .int .i64 (pK lst : Nat), .int .i64 (pS lst : Nat), .int .i64 (pB lst : Nat), .int .i64 (pI lst : Nat), .slice At (pM lst) ct] 26)
            have HXt := Lib.hid (Blk.new Wt 26 #[.int .i64 (pN lst : Nat), .int .i64 (pK lst : Nat), .int .i64 (pS lst : Nat), .int .i64 (pB lst : Nat), .int .i64 (pI lst : Nat), .slice At (pM lst) ct])
            have HGt := Lib.hid (hGt.below hat)
            have HCt := Lib.hid (hCt.below hat)
            have HBt := Lib.hid (HB8.out.trans ((hbt.trans (hat.mono hbt.size)).mono HB8.out.size))
            clear hGt hCt hbt hat
            by_cases hp : prE lst = 0
            case neg =>
              have e1 : pM lst = 0 := by unfold pM pN pK pZ; rw [if_neg hp, if_neg hp]
              have e2 : (pC lst).length = 0 := by unfold pC; rw [if_neg hp]; rfl
              have hne : (prE lst != 0) = true := by rw [bne_iff_ne]; exact hp
              rw [e1] at HXt HBt
              have y5 := (HXt.out.cell 5).trans (show _ = some (Value.slice At 0 ct) from rfl)
              rw [e1, e2]
              generalize prE lst = er at *
              clear hp e1 e2
              go_wp2
              go_ret
              exact ⟨rfl, HBt.out⟩
            case pos =>
              obtain ⟨hsl, hrt, hll⟩ := slB_prE hp
              have hz : ∀ x, pZ lst x = x := fun x => by unfold pZ; rw [hp, if_pos rfl]
              have e1 : pN lst = atL lst 6 2 := hz _
              have e2 : pK lst = atL lst 8 2 := hz _
              have e3 : pS lst = atL lst 12 4 := hz _
              have e4 : pB lst = atL lst 16 4 := hz _
              have e5 : pI lst = atL lst 10 2 := hz _
              have e6 : pM lst = atL lst 6 2 + atL lst 8 2 := by unfold pM; rw [e1, e2]
              have e7 : pC lst = lst.drop (hL lst) := by unfold pC; rw [hp, if_pos rfl]
              rw [e1, e2, e3, e4, e5, e6] at HXt HGt HCt HBt
              rw [e7] at HCt
              rw [e1, e2, e3, e4, e5, e6, e7, hp]
              have hqd : qL lst = blkN (atL lst 12 4) (atL lst 16 4) := rfl
              have hhd : hL lst = hdN (atL lst 6 2) (atL lst 8 2) (qL lst) := rfl
              have hcl : (lst.drop (hL lst)).length = 8 + atL lst 12 4 := by rw [List.length_drop]; omega
              have hbd := hrt.bd
              have hh := smN_eq (qL lst) (atL lst 6 2) (atL lst 8 2)
              have hq1 : 1 * (qL lst * 4) ≤ (atL lst 6 2 + atL lst 8 2) * (qL lst * 4) := Nat.mul_le_mul_right _ (by omega)
              change _ ≤ smN (qL lst) (atL lst 6 2 + atL lst 8 2) at hq1
              have hlen := HR.out.row.len
              rw [← hhd] at hh
              have hw4 : Wf4 (atL lst 6 2 : Nat) (atL lst 8 2 : Nat) (atL lst 12 4 : Nat) (atL lst 16 4 : Nat) := ⟨wfI _ (by omega), wfI _ (by omega), wfI _ (by omega), wfI _ (by omega)⟩
              have HWr := Lib.hid (fun W (ht : Tab W) hG hC => Write_yes (n := atL lst 6 2) (k := atL lst 8 2) (s := atL lst 12 4) (b := atL lst 16 4) (i := atL lst 10 2) hw4 hrt.r hrt.ik (w := W) ht (A := At) (m := atL lst 6 2 + atL lst 8 2) (cap := ct) (RA := RAt) (RL := fun _ => qL lst) (RC := RCt) (R := tdR (lst.drop 20) (qL lst)) hG rfl (fun _ _ => hqd) (C := Ct) (L := (lst.drop (hL lst)).length) (cc := cct) (col := lst.drop (hL lst)) hC hcl (by rw [← hqd, ← hhd]; omega) (by omega) (by rw [← hqd]; omega))
              rw [hsl] at HWr
              rw [← hqd, ← hhd] at HWr
              have hT : hL lst + (lst.drop (hL lst)).length = lb := by omega
              rw [hT] at HWr
              have HT0 : ((0 : Int) != 0) = false := by decide
              generalize hg1 : atL lst 6 2 = v2 at *
              generalize hg2 : atL lst 8 2 = v3 at *
              generalize hg3 : atL lst 12 4 = v5 at *
              generalize hg4 : atL lst 16 4 = v6 at *
              generalize hg5 : atL lst 10 2 = v4 at *
              generalize (lst.drop (hL lst)).length = Lt at *
              clear hp hsl hrt hll hz e1 e2 e3 e4 e5 e6 e7 hqd hhd hcl hbd hh hq1 hlen hw4 hT hg1 hg2 hg3 hg4 hg5
              have y0 := (HXt.out.cell 0).trans (show _ = some (Value.int .i64 (v2 : Nat)) from rfl)
              have y1 := (HXt.out.cell 1).trans (show _ = some (Value.int .i64 (v3 : Nat)) from rfl)
              have y2 := (HXt.out.cell 2).trans (show _ = some (Value.int .i64 (v5 : Nat)) from rfl)
              have y3 := (HXt.out.cell 3).trans (show _ = some (Value.int .i64 (v6 : Nat)) from rfl)
              have y4 := (HXt.out.cell 4).trans (show _ = some (Value.int .i64 (v4 : Nat)) from rfl)
              have y5 := (HXt.out.cell 5).trans (show _ = some (Value.slice At (v2 + v3) ct) from rfl)
              go_wp2_with fail
              refine (HWr.out _ (HT.out.below HBt.out rfl) HGt.out HCt.out).mono ?_
              rintro e Wu ⟨Vu, cu, rfl, hownu, hbu⟩
              have HBu := Lib.hid (HBt.out.trans (hbu.mono HBt.out.size))
              have HVu := Lib.hid (own_in hownu)
              have HRu := Lib.hid (HR.out.below HBu.out)
              clear hownu hbu y0 y1 y2 y3 y4 y5
              go_wp2_with (go_at_call 12; refine (Same_c Vu Bb lb cu cb lst lst _ HVu.out.row HRu.out.row rfl).mono ?_; rintro e Wv ⟨rfl, qv, hqv⟩; have HBv := Lib.hid (show Below w.heap.size w Wv from hqv ▸ below_drewN HBu.out qv))
              go_ret
              exact ⟨rfl, below_drewN HBu.out _⟩
end Go.Proofs.YtbgdoemealddpaaDoor
