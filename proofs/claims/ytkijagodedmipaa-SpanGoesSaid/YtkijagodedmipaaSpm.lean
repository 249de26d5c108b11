/-
  LAW 22: the document's own put: a byte more. No conditions (but for how many volumes there are).
-/
import Derived.Test.YtkijagodedmipaaSpl
namespace Go.Proofs.Ytkijagodedmipaa
open Go.RowKit
set_option maxRecDepth 100000
set_option linter.unusedVariables false

theorem Dw.made {G : Nat → Prop} {W0 w4 : World} {n1 l1 g c gJ cJ : Nat} {RA1 : Nat → Option Addr} {RC1 : Nat → Nat} {R1 : Nat → List F} {v' : Vs} {bx : List F} (hb : Below W0.heap.size W0 w4) (old : ∀ r, r < l1 → RowIn W0 (RA1 r) (R1 r).length (RC1 r) (R1 r)) (oldG : ∀ r, r < l1 → 0 < (R1 r).length → ∀ x o, RA1 r = some ⟨x, o, none⟩ → G x) (hgJ : W0.heap.size ≤ gJ)
    (tab : w4.ownsRow W0.heap.size 33 1 (.slice (some ⟨g, 0, none⟩) n1 c) n1 (rcs (upd RA1 l1 (some ⟨gJ, 0, none⟩)) (upd R1 l1 bx) (upd RC1 l1 cJ) n1)) (hJ : RowIn w4 (some ⟨gJ, 0, none⟩) bx.length cJ bx) (hn : n1 = l1 + 1) (hv : v'.P.length + 1 = n1) (hR : ∀ r, r < n1 → vrow v' r = upd R1 l1 bx r) : Dw (fun x => G x ∨ W0.heap.size ≤ x) w4 v' (some ⟨g, 0, none⟩) c := by
  obtain ⟨A', c', e, h5, h6⟩ := own_shape tab
  injection e with _ _ e
  subst e
  refine ⟨upd RA1 l1 (some ⟨gJ, 0, none⟩), upd RC1 l1 cJ, ?_, fun r hr h0 x o e => ?_, fun x o e => ?_⟩
  rotate_left
  · rw [hv] at hr
    rw [hR r hr] at h0
    by_cases e2 : r = l1
    · subst e2
      rw [upd_at] at e
      injection e with e
      injection e with e _ _
      exact .inr (by omega)
    · rw [upd_ne _ _ e2] at e h0
      exact .inl (oldG r (by omega) h0 x o e)
  · injection e with e
    injection e with e _ _
    exact .inr (by have := (own_ltc tab).1; omega)
  rw [hv]
  refine ⟨h5, h6, fun _ => ⟨g, 0, rfl, (own_ltc tab).2, fun r hr => ?_⟩, fun r hr => ?_⟩
  · rw [Nat.zero_add, tab.cellAt r (by omega), rcs_at hr, hR r hr]
  · show RowIn w4 _ (vrow v' r).length _ _
    rw [hR r hr]
    by_cases e : r = l1
    · subst e
      rw [upd_at, upd_at, upd_at]
      exact hJ
    · rw [upd_ne _ _ e, upd_ne _ _ e, upd_ne _ _ e]
      exact (old r (by omega)).below hb
/-- behind the document's put -/
def dput (v : Vs) (x : F) (next : Bool) : Vs := if next then ⟨v.P ++ [v.q], [x]⟩ else ⟨v.P, v.q ++ [x]⟩
set_option maxHeartbeats 4000000 in
theorem Rput_no {G : Nat → Prop} {w : World} {S : Nat} {v : Vs} {A : Option Addr} {c : Nat} (h : Dw G w v A c) (hP : v.P.length ≤ 100000) (hq : v.q.length ≤ 1000000) (x : F) :
    Calls Try.prog 27 #[dwV S A (v.P.length + 1) c, .int .u8 x.n, .bool false] w fun e w' => ∃ A' c', e = .returned (dwV S A' ((dput v x false).P.length + 1) c') ∧ Dw (fun y => G y ∨ w.heap.size ≤ y) w' (dput v x false) A' c' ∧ (∀ y o, A' = some ⟨y, o, none⟩ → w.heap.size ≤ y) ∧ Below w.heap.size w w' := by
  obtain ⟨i1, hj, hy0, hy1, hy2⟩ := info_parts info_bsE
  obtain ⟨RA, RC, h, hgr, _⟩ := h
  have hb1 := (Below.refl w.heap.size w).alloc (Nat.le_refl _) (.cells #[.int .i64 S, .slice A (v.P.length + 1) c] 31)
  have hK3 := Blk.new w 31 #[.int .i64 S, .slice A (v.P.length + 1) c]
  have hz1 : (w.alloc (.cells #[.int .i64 S, .slice A (v.P.length + 1) c] 31)).heap.size = w.heap.size + 1 := by simp
  have hb2 := (Below.refl (w.alloc (.cells #[.int .i64 S, .slice A (v.P.length + 1) c] 31)).heap.size _).alloc (Nat.le_refl _) (.cells #[.int .i64 0, .slice none 0 0] 31)
  have hK6 := Blk.new (w.alloc (.cells #[.int .i64 S, .slice A (v.P.length + 1) c] 31)) 31 #[.int .i64 0, .slice none 0 0]
  rw [hz1] at hK6
  have hz2 : ((w.alloc (.cells #[.int .i64 S, .slice A (v.P.length + 1) c] 31)).alloc (.cells #[.int .i64 0, .slice none 0 0] 31)).heap.size = w.heap.size + 1 + 1 := by simp
  have hK32 := hK3.below hK3.lt hb2
  have hM2 := MIn.below (MIn.below h hb1) hb2
  have hB2 := hb1.trans (hb2.mono hb1.size)
  obtain ⟨l, hl⟩ : ∃ l, l = v.P.length := ⟨_, rfl⟩
  have HOLD := Lib.hid (MIn.row h)
  have HGR := Lib.hid hgr
  clear hgr
  have hRQ : vrow v v.P.length = v.q := vrow_last v
  rw [← hl] at hK32 hK6 hM2 hB2 HOLD HGR hz2 hRQ ⊢
  have hn2 : l ≤ 100000 := by omega
  have HLL := Lib.hid hl
  have HRQ := Lib.hid hRQ
  obtain ⟨L, hL⟩ : ∃ L, L = v.q.length := ⟨_, rfl⟩
  have HLQ := Lib.hid hL
  have hL2 : L ≤ 1000000 := by omega
  clear hb1 hK3 hz1 hb2 h hl hP hRQ hL hq
  unfold dwV
  go_enter Try.func27, Try.ntmps27
  generalize hG2 : (w.alloc (.cells #[.int .i64 S, .slice A (l + 1) c] 31)).alloc (.cells #[.int .i64 0, .slice none 0 0] 31) = W2 at *
  have hb3 := (Below.refl W2.heap.size W2).alloc (Nat.le_refl _) (.cells #[] 33)
  have hK33 := hK32.below hK32.lt hb3
  have hK63 := hK6.below hK6.lt hb3
  have hM3 := MIn.below hM2 hb3
  have hB3 := hB2.trans (hb3.mono hB2.size)
  obtain ⟨bA, oA, eA, hlA, hcA⟩ := hM3.top (by omega)
  subst eA
  have HCC := Lib.hid (rcs_cells (R := vrow v) hcA)
  have y1 : (W2.alloc (.cells #[] 33)).cell? ⟨w.heap.size, 1, none⟩ = some (.slice (some ⟨bA, oA, none⟩) (l + 1) c) := hK33.cell 1
  have HK33 := Lib.hid hK33
  have HK63 := Lib.hid hK63
  have HB3 := Lib.hid hB3
  have hs2 : w.heap.size ≤ W2.heap.size := hB2.size
  subst hG2
  go_wp2_with (at_builtin; refine wpList_append_lies _ rfl _ _ 29 rfl w.heap.size 33 i1 (.slice none 0 0) 1 24 Try.underlying29 hj hy0 hy1 hy2 rfl (by decide) (.slice (some ⟨w.heap.size + 1 + 1, 0, none⟩) 0 0) 0 [] rfl (by rw [← hz2]; exact World.ownsRow_made _ #[] 0 hs2 (Nat.zero_le _) rfl) ⟨bA, oA, none⟩ (l + 1) c (rcs RA (vrow v) RC (l + 1)) rfl (by rw [rcs_length, Nat.mul_one]) HCC.out rcs_one (by omega) (by unfold maxLen; omega) (by omega) (by simp; omega) (w.heap.size + 1 + 1 + 1) (by simp) ?_; intro g4 c4 w4 hown4 hg4 hat4 hlt4; rw [Nat.zero_add, List.nil_append] at hown4; have z4 : w4.cell? ⟨g4, l, none⟩ = some (.slice (RA l) L (RC l)) := (hown4.cellAt l (by omega)).trans ((rcs_at (by omega)).trans (by rw [HRQ.out, ← HLQ.out])))
  have HB4 := Lib.hid (HB3.out.grown hg4 HB3.out.size (fun k hk => by injection hk with hk; subst hk; show w.heap.size ≤ w.heap.size + 1 + 1; omega))
  have HT4 := Lib.hid hown4
  have HG4 : Hid (w.heap.size + 1 < g4 ∧ g4 < w4.heap.size) := ⟨hat4.elim (fun e => by injection e with e; have e2 : w.heap.size + 1 + 1 = g4 := e; omega) (fun e => by omega), hlt4⟩
  have HK34 := Lib.hid (HK33.out.kept hg4 ⟨HK33.out.lt, fun e => by injection e with e; have e2 : w.heap.size + 1 + 1 = w.heap.size := e; omega⟩)
  have HK64 := Lib.hid (HK63.out.kept hg4 ⟨HK63.out.lt, fun e => by injection e with e; have e2 : w.heap.size + 1 + 1 = w.heap.size + 1 := e; omega⟩)
  clear hown4 hg4 hat4 hlt4
  have HROW : Hid (RowIn w4 (RA l) L (RC l) v.q) := by
    have h9 := (HOLD.out l (by omega)).below HB4.out
    rw [HRQ.out] at h9
    rw [HLQ.out]
    exact h9
  have HOLD2 := Lib.hid (fun r (hr : r < l) => HOLD.out r (by omega))
  have HOLDG := Lib.hid (fun r (hr : r < l) => HGR.out r (by omega))
  
  have hb5 := (Below.refl w4.heap.size w4).alloc (Nat.le_refl _) (.cells #[.int .u8 x.n] 5)
  have hcell : (w4.alloc (.cells #[.int .u8 x.n] 5)).cell? ⟨w4.heap.size, 0, none⟩ = some (.int .u8 x.n) := (Blk.new w4 5 #[.int .u8 x.n]).cell 0
  have hM6 := two_in (HROW.out.below hb5) hcell (.cells #[.slice (RA l) L (RC l), .slice (some ⟨w4.heap.size, 0, none⟩) 1 1] 33) 33 rfl
  have hb6 := (Below.refl (w4.alloc (.cells #[.int .u8 x.n] 5)).heap.size _).alloc (Nat.le_refl _) (.cells #[.slice (RA l) L (RC l), .slice (some ⟨w4.heap.size, 0, none⟩) 1 1] 33)
  have hz6 : ((w4.alloc (.cells #[.int .u8 x.n] 5)).alloc (.cells #[.slice (RA l) L (RC l), .slice (some ⟨w4.heap.size, 0, none⟩) 1 1] 33)).heap.size = w4.heap.size + 2 := by simp
  rw [World.size_alloc] at hM6
  have hJC := Join_c hM6 (by omega) (fun r hr => by split <;> omega)
  rw [lenTo_two, joinTo_two, hz6] at hJC
  have hb46 := hb5.trans (hb6.mono hb5.size)
  have HJC := Lib.hid hJC
  have HB46 := Lib.hid hb46
  clear hb5 hcell hM6 hb6 hz6 hJC hb46
  refine HJC.out.mono ?_
  rintro e w7 ⟨gJ, cJ, rfl, hownJ, hb7⟩
  have hb47 := HB46.out.trans (hb7.mono (by omega))
  have hgl := own_ltc HT4.out
  have hgJ := own_ltc hownJ
  have hown7 := own_below HT4.out hb47
  have x7 : w7.cell? ⟨g4, l, none⟩ = some (.slice (RA l) L (RC l)) := (hb47.cell (p := ⟨g4, l, none⟩) hgl.2).trans z4
  have xf7 := hown7.frozenAt l
  have hlen : (v.q ++ [x]).length = (L + 1) := by rw [List.length_append, ← HLQ.out]; rfl
  have hT8 := (hown7.stored l (.slice (some ⟨gJ, 0, none⟩) (L + 1) cJ)).1
  rw [← hlen, rcs_set (by omega), hlen] at hT8
  have hk38 := (HK34.out.below HK34.out.lt hb47).setOther (a := ⟨g4, l, none⟩) (by show w.heap.size ≠ g4; have := HG4.out; omega) (.slice (some ⟨gJ, 0, none⟩) (L + 1) cJ)
  have hk68 := (HK64.out.below HK64.out.lt hb47).setOther (a := ⟨g4, l, none⟩) (by show w.heap.size + 1 ≠ g4; have := HG4.out; omega) (.slice (some ⟨gJ, 0, none⟩) (L + 1) cJ)
  have hB7 := HB4.out.trans (hb47.mono HB4.out.size)
  have hB8 : Below w.heap.size w (w7.setCell ⟨g4, l, none⟩ (.slice (some ⟨gJ, 0, none⟩) (L + 1) cJ)) := hB7.setCell (p := ⟨g4, l, none⟩) (by show w.heap.size ≤ g4; have := HG4.out; omega) _
  have hJ8 : Row (w7.setCell ⟨g4, l, none⟩ (.slice (some ⟨gJ, 0, none⟩) (L + 1) cJ)) (some ⟨gJ, 0, none⟩) (L + 1) (v.q ++ [x]) := (Row.of_own hownJ).setOther (fun b o e => by injection e with e; injection e with e _ _; subst e; show gJ ≠ g4; omega) _
  have hcJ := own_cap hownJ
  have HT8 := Lib.hid hT8
  have HK68 := Lib.hid hk68
  have HB8 := Lib.hid hB8
  have HJ8 := Lib.hid hJ8
  have HCJ := Lib.hid hcJ
  have HGJ : Hid (gJ ≠ w.heap.size + 1) := by have := HB4.out.size; have := HG4.out; unfold Hid; omega
  have HLN := Lib.hid hlen
  have HGJS : Hid (w.heap.size ≤ gJ) := by have := HB4.out.size; unfold Hid; omega
  have s8 : (w7.setCell ⟨g4, l, none⟩ (.slice (some ⟨gJ, 0, none⟩) (L + 1) cJ)).cell? ⟨w.heap.size, 0, none⟩ = some (.int .i64 S) := hk38.cell 0
  have t2 := st_dw hk68 rfl #[.int .i64 S, .slice (some ⟨g4, 0, none⟩) (l + 1) c4] rfl (by simp [Value.oneCell'])
  have t3 := ld_dw (hk68.setRow #[.int .i64 S, .slice (some ⟨g4, 0, none⟩) (l + 1) c4]) rfl
  clear hb47 hgl hgJ hown7 hlen hT8 hk38 hk68 hB7 hB8 hJ8 hcJ hownJ hb7 z4
  go_wp2_with (with_reducible refine wpList_store_var _ _ _ (by with_unfolding_all rfl) (by with_unfolding_all rfl) t2 ?_)
  refine bodyPost_ret (v := .agg #[.int .i64 S, .slice (some ⟨g4, 0, none⟩) (l + 1) c4]) ?_ rfl ⟨some ⟨g4, 0, none⟩, c4, by rw [show (dput v x false).P.length + 1 = l + 1 by rw [HLL.out]; rfl], ?_, (fun y o e => by injection e with e; injection e with e _ _; subst e; have := HG4.out; omega), below_setRowV HB8.out (by omega) _⟩
  · rw [results_cell_oneV rfl]
    simp [asAddr, Result.andThen, t3]
  · refine Dw.made (n1 := l + 1) (l1 := l) (gJ := gJ) (cJ := cJ) (RA1 := RA) (RC1 := RC) (R1 := vrow v) (bx := v.q ++ [x]) (below_setRowV HB8.out (by omega) _) HOLD2.out HOLDG.out (by have := HGJS.out; exact this) (own_block HT8.out (fun k hk => by injection hk with hk; subst hk; exact heap_setRow_ne (by show g4 ≠ w.heap.size + 1; have := HG4.out; omega) _)) ⟨?_, by rw [HLN.out]; exact HCJ.out.1, by unfold maxLen; exact HCJ.out.2⟩ rfl (by rw [show (dput v x false).P.length + 1 = l + 1 by rw [HLL.out]; rfl]) (fun r hr => by rw [HLL.out] at hr ⊢; exact vrow_upd_fit v [x] hr)
    rw [HLN.out]
    exact HJ8.out.blk (by rw [World.size_setRow]; exact Nat.le_refl _) (fun b o e _ => by injection e with e; injection e with e _ _; subst e; exact heap_setRow_ne HGJ.out _)
set_option maxHeartbeats 4000000 in
theorem Rput_yes {G : Nat → Prop} {w : World} {S : Nat} {v : Vs} {A : Option Addr} {c : Nat} (h : Dw G w v A c) (hP : v.P.length ≤ 100000) (hq : v.q.length ≤ 1000000) (x : F) :
    Calls Try.prog 27 #[dwV S A (v.P.length + 1) c, .int .u8 x.n, .bool true] w fun e w' => ∃ A' c', e = .returned (dwV S A' ((dput v x true).P.length + 1) c') ∧ Dw (fun y => G y ∨ w.heap.size ≤ y) w' (dput v x true) A' c' ∧ (∀ y o, A' = some ⟨y, o, none⟩ → w.heap.size ≤ y) ∧ Below w.heap.size w w' := by
  obtain ⟨i1, hj, hy0, hy1, hy2⟩ := info_parts info_bsE
  obtain ⟨RA, RC, h, hgr, _⟩ := h
  have hb1 := (Below.refl w.heap.size w).alloc (Nat.le_refl _) (.cells #[.int .i64 S, .slice A (v.P.length + 1) c] 31)
  have hK3 := Blk.new w 31 #[.int .i64 S, .slice A (v.P.length + 1) c]
  have hz1 : (w.alloc (.cells #[.int .i64 S, .slice A (v.P.length + 1) c] 31)).heap.size = w.heap.size + 1 := by simp
  have hb2 := (Below.refl (w.alloc (.cells #[.int .i64 S, .slice A (v.P.length + 1) c] 31)).heap.size _).alloc (Nat.le_refl _) (.cells #[.int .i64 0, .slice none 0 0] 31)
  have hK6 := Blk.new (w.alloc (.cells #[.int .i64 S, .slice A (v.P.length + 1) c] 31)) 31 #[.int .i64 0, .slice none 0 0]
  rw [hz1] at hK6
  have hz2 : ((w.alloc (.cells #[.int .i64 S, .slice A (v.P.length + 1) c] 31)).alloc (.cells #[.int .i64 0, .slice none 0 0] 31)).heap.size = w.heap.size + 1 + 1 := by simp
  have hK32 := hK3.below hK3.lt hb2
  have hM2 := MIn.below (MIn.below h hb1) hb2
  have hB2 := hb1.trans (hb2.mono hb1.size)
  obtain ⟨l, hl⟩ : ∃ l, l = v.P.length := ⟨_, rfl⟩
  have HOLD := Lib.hid (MIn.row h)
  have HGR := Lib.hid hgr
  clear hgr
  have hRQ : vrow v v.P.length = v.q := vrow_last v
  rw [← hl] at hK32 hK6 hM2 hB2 HOLD HGR hz2 hRQ ⊢
  have hn2 : l ≤ 100000 := by omega
  have HLL := Lib.hid hl
  have HRQ := Lib.hid hRQ
  obtain ⟨L, hL⟩ : ∃ L, L = v.q.length := ⟨_, rfl⟩
  have HLQ := Lib.hid hL
  have hL2 : L ≤ 1000000 := by omega
  clear hb1 hK3 hz1 hb2 h hl hP hRQ hL hq
  unfold dwV
  go_enter Try.func27, Try.ntmps27
  generalize hG2 : (w.alloc (.cells #[.int .i64 S, .slice A (l + 1) c] 31)).alloc (.cells #[.int .i64 0, .slice none 0 0] 31) = W2 at *
  have hb3 := (Below.refl W2.heap.size W2).alloc (Nat.le_refl _) (.cells #[] 33)
  have hK33 := hK32.below hK32.lt hb3
  have hK63 := hK6.below hK6.lt hb3
  have hM3 := MIn.below hM2 hb3
  have hB3 := hB2.trans (hb3.mono hB2.size)
  obtain ⟨bA, oA, eA, hlA, hcA⟩ := hM3.top (by omega)
  subst eA
  have HCC := Lib.hid (rcs_cells (R := vrow v) hcA)
  have y1 : (W2.alloc (.cells #[] 33)).cell? ⟨w.heap.size, 1, none⟩ = some (.slice (some ⟨bA, oA, none⟩) (l + 1) c) := hK33.cell 1
  have HK33 := Lib.hid hK33
  have HK63 := Lib.hid hK63
  have HB3 := Lib.hid hB3
  have hs2 : w.heap.size ≤ W2.heap.size := hB2.size
  subst hG2
  go_wp2_with (first
    | (at_builtin; refine wpList_append_lies _ rfl _ _ 29 rfl w.heap.size 33 i1 (.slice none 0 0) 1 24 Try.underlying29 hj hy0 hy1 hy2 rfl (by decide) (.slice (some ⟨w.heap.size + 1 + 1, 0, none⟩) 0 0) 0 [] rfl (by rw [← hz2]; exact World.ownsRow_made _ #[] 0 hs2 (Nat.zero_le _) rfl) ⟨bA, oA, none⟩ (l + 1) c (rcs RA (vrow v) RC (l + 1)) rfl (by rw [rcs_length, Nat.mul_one]) HCC.out rcs_one (by omega) (by unfold maxLen; omega) (by omega) (by simp; omega) (w.heap.size + 1 + 1 + 1) (by simp) ?_; intro g4 c4 w4 hown4 hg4 hat4 hlt4; rw [Nat.zero_add, List.nil_append] at hown4)
    | (at_builtin; refine wpList_append_lies _ rfl _ _ 29 rfl w.heap.size 33 i1 (.slice none 0 0) 1 24 Try.underlying29 hj hy0 hy1 hy2 rfl (by decide) (.slice (some ⟨g4, 0, none⟩) (l + 1) c4) (l + 1) (rcs RA (vrow v) RC (l + 1)) rfl (own_below (own_below hown4 ((Below.refl w4.heap.size w4).alloc (Nat.le_refl _) (.cells #[] 5))) ((Below.refl (w4.alloc (.cells #[] 5)).heap.size _).alloc (Nat.le_refl _) (.cells #[.slice (some ⟨w4.heap.size, 0, none⟩) 0 0] 33))) ⟨w4.heap.size + 1, 0, none⟩ 1 1 [.slice (some ⟨w4.heap.size, 0, none⟩) 0 0] rfl rfl (by rw [← World.size_alloc w4 (.cells #[] 5)]; exact one_cell _ _ _) (by intro u hu; simp at hu; subst hu; rfl) (by decide) (by unfold maxLen; omega) (by omega) (by have h9 := (own_ltc hown4); simp; omega) (w4.heap.size + 1 + 1) (by simp) ?_; intro g5 c5 w5 hown5 hg5 hat5 hlt5; have z4 : w5.cell? ⟨g5, l + 1, none⟩ = some (.slice (some ⟨w4.heap.size, 0, none⟩) 0 0) := (hown5.cellAt (l + 1) (by omega)).trans (by rw [List.getElem?_append_right (by rw [rcs_length]; omega), rcs_length, Nat.sub_self]; rfl)))
  have HB4 := Lib.hid (HB3.out.grown hg4 HB3.out.size (fun k hk => by injection hk with hk; subst hk; show w.heap.size ≤ w.heap.size + 1 + 1; omega))
  have HT4 := Lib.hid hown4
  have HG4 : Hid (w.heap.size + 1 < g4 ∧ g4 < w4.heap.size) := ⟨hat4.elim (fun e => by injection e with e; have e2 : w.heap.size + 1 + 1 = g4 := e; omega) (fun e => by omega), hlt4⟩
  have HK34 := Lib.hid (HK33.out.kept hg4 ⟨HK33.out.lt, fun e => by injection e with e; have e2 : w.heap.size + 1 + 1 = w.heap.size := e; omega⟩)
  have HK64 := Lib.hid (HK63.out.kept hg4 ⟨HK63.out.lt, fun e => by injection e with e; have e2 : w.heap.size + 1 + 1 = w.heap.size + 1 := e; omega⟩)
  clear hown4 hg4 hat4 hlt4
  have hw45 := ((Below.refl w4.heap.size w4).alloc (Nat.le_refl _) (.cells #[] 5))
  have hw45b := hw45.trans (((Below.refl (w4.alloc (.cells #[] 5)).heap.size _).alloc (Nat.le_refl _) (.cells #[.slice (some ⟨w4.heap.size, 0, none⟩) 0 0] 33)).mono hw45.size)
  have hk345 := (HK34.out.below HK34.out.lt hw45b).kept hg5 ⟨(HK34.out.below HK34.out.lt hw45b).lt, fun e => by injection e with e; have e2 : g4 = w.heap.size := e; have := HG4.out; omega⟩
  have hk645 := (HK64.out.below HK64.out.lt hw45b).kept hg5 ⟨(HK64.out.below HK64.out.lt hw45b).lt, fun e => by injection e with e; have e2 : g4 = w.heap.size + 1 := e; have := HG4.out; omega⟩
  have hB5 := (HB4.out.trans (hw45b.mono HB4.out.size)).grown hg5 (HB4.out.trans (hw45b.mono HB4.out.size)).size (fun k hk => by injection hk with hk; subst hk; show w.heap.size ≤ g4; have := HG4.out; omega)
  have HG5 : Hid (w.heap.size + 1 < g5 ∧ g5 < w5.heap.size) := ⟨hat5.elim (fun e => by injection e with e; have e2 : g4 = g5 := e; have := HG4.out; omega) (fun e => by have := HG4.out; omega), hlt5⟩
  have hsn := rcs_snoc (RA := RA) (R := vrow v) (RC := RC) (l + 1) (some ⟨w4.heap.size, 0, none⟩) [] 0
  rw [List.length_nil] at hsn
  rw [hsn] at hown5
  have HT5 := Lib.hid hown5
  have HROW : Hid (RowIn w5 (some ⟨w4.heap.size, 0, none⟩) 0 0 []) := ⟨Row.nil _ _, Nat.le_refl _, by unfold maxLen; omega⟩
  have HOLD2 : Hid (∀ r, r < l + 1 → RowIn w (upd RA (l + 1) (some ⟨w4.heap.size, 0, none⟩) r) (upd (vrow v) (l + 1) [] r).length (upd RC (l + 1) 0 r) (upd (vrow v) (l + 1) [] r)) := fun r hr => by
    rw [upd_ne _ _ (by omega), upd_ne _ _ (by omega), upd_ne _ _ (by omega)]
    exact HOLD.out r hr
  have HOLDG : Hid (∀ r, r < l + 1 → 0 < (upd (vrow v) (l + 1) [] r).length → ∀ x o, upd RA (l + 1) (some ⟨w4.heap.size, 0, none⟩) r = some ⟨x, o, none⟩ → G x) := fun r hr h0 x o e => by
    rw [upd_ne _ _ (by omega)] at h0 e
    exact HGR.out r hr h0 x o e
  clear HT4 HK34 HK64 HB4 HG4
  have HT4 := HT5
  have HK34 := Lib.hid hk345
  have HK64 := Lib.hid hk645
  have HB4 := Lib.hid hB5
  have HG4 := HG5
  clear hw45 hw45b hk345 hk645 hB5 HG5 hsn hown5 hg5 hat5 hlt5 HT5
  generalize w4.heap.size = ge at *
  
  have hb5 := (Below.refl w5.heap.size w5).alloc (Nat.le_refl _) (.cells #[.int .u8 x.n] 5)
  have hcell : (w5.alloc (.cells #[.int .u8 x.n] 5)).cell? ⟨w5.heap.size, 0, none⟩ = some (.int .u8 x.n) := (Blk.new w5 5 #[.int .u8 x.n]).cell 0
  have hM6 := two_in (HROW.out.below hb5) hcell (.cells #[.slice (some ⟨ge, 0, none⟩) 0 0, .slice (some ⟨w5.heap.size, 0, none⟩) 1 1] 33) 33 rfl
  have hb6 := (Below.refl (w5.alloc (.cells #[.int .u8 x.n] 5)).heap.size _).alloc (Nat.le_refl _) (.cells #[.slice (some ⟨ge, 0, none⟩) 0 0, .slice (some ⟨w5.heap.size, 0, none⟩) 1 1] 33)
  have hz6 : ((w5.alloc (.cells #[.int .u8 x.n] 5)).alloc (.cells #[.slice (some ⟨ge, 0, none⟩) 0 0, .slice (some ⟨w5.heap.size, 0, none⟩) 1 1] 33)).heap.size = w5.heap.size + 2 := by simp
  rw [World.size_alloc] at hM6
  have hJC := Join_c hM6 (by omega) (fun r hr => by split <;> omega)
  rw [lenTo_two, joinTo_two, hz6, Nat.zero_add] at hJC
  have hb46 := hb5.trans (hb6.mono hb5.size)
  have HJC := Lib.hid hJC
  have HB46 := Lib.hid hb46
  clear hb5 hcell hM6 hb6 hz6 hJC hb46
  refine HJC.out.mono ?_
  rintro e w7 ⟨gJ, cJ, rfl, hownJ, hb7⟩
  have hb47 := HB46.out.trans (hb7.mono (by omega))
  have hgl := own_ltc HT4.out
  have hgJ := own_ltc hownJ
  have hown7 := own_below HT4.out hb47
  have x7 : w7.cell? ⟨g5, (l + 1), none⟩ = some (.slice (some ⟨ge, 0, none⟩) 0 0) := (hb47.cell (p := ⟨g5, (l + 1), none⟩) hgl.2).trans z4
  have xf7 := hown7.frozenAt (l + 1)
  have hlen : (([] : List F) ++ [x]).length = 1 := rfl
  have hT8 := (hown7.stored (l + 1) (.slice (some ⟨gJ, 0, none⟩) 1 cJ)).1
  rw [← hlen, rcs_set (by omega), hlen] at hT8
  have hk38 := (HK34.out.below HK34.out.lt hb47).setOther (a := ⟨g5, (l + 1), none⟩) (by show w.heap.size ≠ g5; have := HG4.out; omega) (.slice (some ⟨gJ, 0, none⟩) 1 cJ)
  have hk68 := (HK64.out.below HK64.out.lt hb47).setOther (a := ⟨g5, (l + 1), none⟩) (by show w.heap.size + 1 ≠ g5; have := HG4.out; omega) (.slice (some ⟨gJ, 0, none⟩) 1 cJ)
  have hB7 := HB4.out.trans (hb47.mono HB4.out.size)
  have hB8 : Below w.heap.size w (w7.setCell ⟨g5, (l + 1), none⟩ (.slice (some ⟨gJ, 0, none⟩) 1 cJ)) := hB7.setCell (p := ⟨g5, (l + 1), none⟩) (by show w.heap.size ≤ g5; have := HG4.out; omega) _
  have hJ8 : Row (w7.setCell ⟨g5, (l + 1), none⟩ (.slice (some ⟨gJ, 0, none⟩) 1 cJ)) (some ⟨gJ, 0, none⟩) 1 (([] : List F) ++ [x]) := (Row.of_own hownJ).setOther (fun b o e => by injection e with e; injection e with e _ _; subst e; show gJ ≠ g5; omega) _
  have hcJ := own_cap hownJ
  have HT8 := Lib.hid hT8
  have HK68 := Lib.hid hk68
  have HB8 := Lib.hid hB8
  have HJ8 := Lib.hid hJ8
  have HCJ := Lib.hid hcJ
  have HGJ : Hid (gJ ≠ w.heap.size + 1) := by have := HB4.out.size; have := HG4.out; unfold Hid; omega
  have HLN := Lib.hid hlen
  have HGJS : Hid (w.heap.size ≤ gJ) := by have := HB4.out.size; unfold Hid; omega
  have s8 : (w7.setCell ⟨g5, (l + 1), none⟩ (.slice (some ⟨gJ, 0, none⟩) 1 cJ)).cell? ⟨w.heap.size, 0, none⟩ = some (.int .i64 S) := hk38.cell 0
  have t2 := st_dw hk68 rfl #[.int .i64 S, .slice (some ⟨g5, 0, none⟩) ((l + 1) + 1) c5] rfl (by simp [Value.oneCell'])
  have t3 := ld_dw (hk68.setRow #[.int .i64 S, .slice (some ⟨g5, 0, none⟩) ((l + 1) + 1) c5]) rfl
  clear hb47 hgl hgJ hown7 hlen hT8 hk38 hk68 hB7 hB8 hJ8 hcJ hownJ hb7 z4
  go_wp2_with (with_reducible refine wpList_store_var _ _ _ (by with_unfolding_all rfl) (by with_unfolding_all rfl) t2 ?_)
  refine bodyPost_ret (v := .agg #[.int .i64 S, .slice (some ⟨g5, 0, none⟩) ((l + 1) + 1) c5]) ?_ rfl ⟨some ⟨g5, 0, none⟩, c5, by rw [show (dput v x true).P.length + 1 = l + 1 + 1 by rw [HLL.out]; simp [dput]], ?_, (fun y o e => by injection e with e; injection e with e _ _; subst e; have := HG4.out; omega), below_setRowV HB8.out (by omega) _⟩
  · rw [results_cell_oneV rfl]
    simp [asAddr, Result.andThen, t3]
  · refine Dw.made (n1 := (l + 1) + 1) (l1 := (l + 1)) (gJ := gJ) (cJ := cJ) (RA1 := (upd RA (l + 1) (some ⟨ge, 0, none⟩))) (RC1 := (upd RC (l + 1) 0)) (R1 := (upd (vrow v) (l + 1) [])) (bx := ([] : List F) ++ [x]) (below_setRowV HB8.out (by omega) _) HOLD2.out HOLDG.out (by have := HGJS.out; exact this) (own_block HT8.out (fun k hk => by injection hk with hk; subst hk; exact heap_setRow_ne (by show g5 ≠ w.heap.size + 1; have := HG4.out; omega) _)) ⟨?_, by rw [HLN.out]; exact HCJ.out.1, by unfold maxLen; exact HCJ.out.2⟩ rfl (by rw [show (dput v x true).P.length + 1 = l + 1 + 1 by rw [HLL.out]; simp [dput]]) (fun r hr => by rw [HLL.out] at hr ⊢; exact vrow_upd_new v [x] hr)
    rw [HLN.out]
    exact HJ8.out.blk (by rw [World.size_setRow]; exact Nat.le_refl _) (fun b o e _ => by injection e with e; injection e with e _ _; subst e; exact heap_setRow_ne HGJ.out _)
theorem Rput_c {G : Nat → Prop} {w : World} {S : Nat} {v : Vs} {A : Option Addr} {c : Nat} (h : Dw G w v A c) (hP : v.P.length ≤ 100000) (hq : v.q.length ≤ 1000000) (x : F) (next : Bool) :
    Calls Try.prog 27 #[dwV S A (v.P.length + 1) c, .int .u8 x.n, .bool next] w fun e w' => ∃ A' c', e = .returned (dwV S A' ((dput v x next).P.length + 1) c') ∧ Dw (fun y => G y ∨ w.heap.size ≤ y) w' (dput v x next) A' c' ∧ (∀ y o, A' = some ⟨y, o, none⟩ → w.heap.size ≤ y) ∧ Below w.heap.size w w' := by
  cases next
  · exact Rput_no h hP hq x
  · exact Rput_yes h hP hq x
end Go.Proofs.Ytkijagodedmipaa
