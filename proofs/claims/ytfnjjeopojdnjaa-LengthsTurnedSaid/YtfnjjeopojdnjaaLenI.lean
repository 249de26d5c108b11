/-
  HOW MANY LEAVES ARE BOUGHT ON EACH TIER. No conditions but how many symbols there are.
-/
import Derived.Test.YtfnjjeopojdnjaaLenF
import Derived.Test.YtfnjjeopojdnjaaLenH
namespace Go.Proofs.Ytfnjjeopojdnjaa
open Go.RowKit
set_option maxRecDepth 100000
set_option linter.unusedVariables false

theorem iN_length (l : List Nat) : (iN l).length = l.length := by simp [iN]
theorem iN_at (l : List Nat) {k : Nat} (h : k < l.length) : (iN l)[k]? = some (.int .i64 (l.getD k 0 : Nat)) := by
  unfold iN
  simp [List.getD_eq_getElem?_getD, h]
theorem iN_ext {L : List Value} {l : List Nat} (hl : L.length = l.length) (h : ∀ k, k < l.length → L[k]? = some (.int .i64 (l.getD k 0 : Nat))) : L = iN l := by
  refine List.ext_getElem? fun k => ?_
  by_cases hk : k < l.length
  · rw [h k hk, iN_at l hk]
  · rw [List.getElem?_eq_none (by omega), List.getElem?_eq_none (by rw [iN_length]; omega)]
def nI (l : List Nat) : List Int := l.map fun x => ((x : Nat) : Int)
theorem nI_at (l : List Nat) {k : Nat} (h : k < l.length) : gi (nI l) k = (l.getD k 0 : Nat) := by
  unfold gi nI
  simp [List.getD_eq_getElem?_getD, h]
theorem IRow.ofN {w : World} {base g c n : Nat} {l : List Nat} (h : w.ownsRow base 3 1 (.slice (some ⟨g, 0, none⟩) n c) n (iN l)) (hs : ∀ x ∈ l, x < 9223372036854775808) (hn : n ≤ 1000) : IRow w (some ⟨g, 0, none⟩) n .i64 (nI l) := by
  have hl : l.length = n := by have := h.1; rw [iN_length] at this; omega
  refine ⟨by simp [nI, hl], by unfold maxLen; omega, fun h0 => ?_, fun i hi => ?_⟩
  · obtain ⟨g', cap, hv, _, hlt⟩ := h.form h0
    injection hv with hv1 _ _
    injection hv1 with hv1
    injection hv1 with hv1
    subst hv1
    refine ⟨g, 0, rfl, hlt, fun i hi => ?_⟩
    rw [Nat.zero_add, h.cellAt i (by omega), iN_at l (by omega), nI_at l (by omega)]
  · rw [nI_at l (by omega)]
    have h1 : l.getD i 0 < 9223372036854775808 := by
      rw [List.getD_eq_getElem?_getD, List.getElem?_eq_getElem (by omega)]
      exact hs _ (List.getElem_mem _)
    have hmin : IntKind.i64.min = -9223372036854775808 := rfl
    have hmax : IntKind.i64.max = 9223372036854775807 := rfl
    simp only [Lit.wf, Bool.and_eq_true, decide_eq_true_eq]
    omega
theorem buy_step (W : List Nat) (K : List Nat) {i t k : Nat} (h : K.drop i = buyC W (t + 1) k) : K.getD i 0 = lcn ((tierC W t).take k) ∧ K.drop (i + 1) = buyC W t (2 * (k - lcn ((tierC W t).take k))) := by
  have h1 : K.drop i = lcn ((tierC W t).take k) :: buyC W t (2 * (k - lcn ((tierC W t).take k))) := h
  have hlt : i < K.length := by
    rcases Nat.lt_or_ge i K.length with h2 | h2
    · exact h2
    · rw [List.drop_of_length_le h2] at h1; cases h1
  rw [List.drop_eq_getElem_cons hlt] at h1
  injection h1 with h2 h3
  exact ⟨by rw [List.getD_eq_getElem?_getD, List.getElem?_eq_getElem hlt]; exact h2, h3⟩
theorem buy_next {W : List Nat} (hW : Srt W) : ∀ s k, k ≤ (tierC W s).length → lcn ((tierC W s).take k) ≤ k ∧ 2 * (k - lcn ((tierC W s).take k)) ≤ 2 * W.length ∧ (1 ≤ s → 2 * (k - lcn ((tierC W s).take k)) ≤ (tierC W (s - 1)).length)
  | 0, k, hk => by
    have h := tier_split hW 0 k hk
    have h2 : k = lcn ((tierC W 0).take k) := h.2.2.1
    exact ⟨h.1, by omega, fun h => by omega⟩
  | s + 1, k, hk => by
    have h := tier_split hW (s + 1) k hk
    have h2 : 2 * (k - lcn ((tierC W (s + 1)).take k)) ≤ (tierC W s).length := h.2.2.1
    have h3 := tier_len_le W s
    exact ⟨h.1, by omega, fun _ => h2⟩
set_option maxHeartbeats 4000000 in
theorem leavesBought_c (b off n L : Nat) (W : List Nat) (w : World) (h : CRow w (some ⟨b, off, none⟩) n (cw (lvs W)) (cq (lvs W))) (hb : b < w.heap.size) (hWn : n = W.length) (hn : n ≤ 400) (hL : 1 ≤ L) (hL2 : L ≤ 15) (hW : ∀ x ∈ W, x ≤ 1073741824) (hS : Srt W) (hroom : n ≤ 2 ^ L) :
    Calls Try.prog 22 #[.slice (some ⟨b, off, none⟩) n n, .int .i64 L] w fun e w' => ∃ g, e = .returned (.slice (some ⟨g, 0, none⟩) L L) ∧ w'.ownsRow w.heap.size 3 1 (.slice (some ⟨g, 0, none⟩) L L) L (iN (bestC W L)) ∧ Below w.heap.size w w' := by
  obtain ⟨i0, hi, hz0, hz1, hz2⟩ := info_parts info_int
  obtain ⟨t0, ht0⟩ : ∃ t0, L = t0 + 1 := ⟨L - 1, by omega⟩
  have hr0 : 2 * W.length - 2 ≤ (tierC W t0).length := best_room hS (by rw [← ht0, ← hWn]; exact hroom)
  have HT := Lib.hid (tiers_c b off n L W w h hb hWn hn hL hL2 hW)
  have hmx : max (2 * (n : Int) - 2) 0 = ((2 * n - 2 : Nat) : Int) := by omega
  obtain ⟨k0, hk0⟩ : ∃ k0, k0 = 2 * n - 2 := ⟨_, rfl⟩
  rw [← hk0] at hmx
  rw [← hWn, ← hk0] at hr0
  have HB : Hid (bestC W L = buyC W L k0) := by unfold Hid bestC; rw [hk0, hWn]
  have hk9 : k0 ≤ 800 := by omega
  have HR0 := Lib.hid hr0
  have HT0 := Lib.hid ht0
  have HSR := Lib.hid hS
  have HWN := Lib.hid hWn
  clear hk0 hr0 ht0 hS hWn hroom h hW
  go_enter Try.func22, Try.ntmps22
  go_wp2_with fail
  refine HT.out.mono ?_
  rintro e w1 ⟨g, c, rfl, G, O, C, hown, hT, hb1⟩
  go_wp2_with (at_make; refine wpList_make_full _ rfl _ _ 22 rfl w1.heap.size 3 i0 (.int .i64 0) 1 Try.underlying22 hi hz0 hz1 _ _ _ _ L rfl rfl rfl rfl (by rw [hz2]; omega) (by unfold maxLen; omega) (Nat.le_refl _) ?_; intro w2 hown2 hgrow2)
  go_wp2
  obtain ⟨L0, hL0⟩ : ∃ L0, L0 = (madeCells (Value.int IntKind.i64 0).cells (L * 1)).toList := ⟨_, rfl⟩
  rw [← hL0] at hown2
  clear hL0
  obtain ⟨q, hq⟩ : ∃ q, q = w1.heap.size := ⟨_, rfl⟩
  rw [← hq] at hown2 ⊢
  have HQ := Lib.hid hq
  have hbq : Below q w1 w2 := by rw [hq]; exact (Below.refl _ _).grown hgrow2 (Nat.le_refl _) (fun k h => by cases h)
  have hgq : g < q := by rw [hq]; exact (hown.lt g rfl).2
  clear hq hgrow2
  go_loopw [7, 21] (fun vb vi wr => ∃ (i k : Nat) (Ls : List Value), i ≤ L ∧ k ≤ 800 ∧ vi = .int .i64 i ∧ vb = .int .i64 k ∧ wr.ownsRow q 3 1 (.slice (some ⟨q, 0, none⟩) L L) L Ls ∧
      Hid ((∀ j, j < i → Ls[j]? = some (.int .i64 ((buyC W L k0).getD j 0 : Nat))) ∧ (buyC W L k0).drop i = buyC W (L - i) k ∧ (i < L → k ≤ (tierC W (L - 1 - i)).length)) ∧ Below q w1 wr) (fun _ vi _ => L - (intOf vi).toNat)
  case atStart => exact ⟨0, k0, L0, by omega, hk9, rfl, rfl, hown2, ⟨fun j hj => by omega, rfl, fun _ => by rw [show L - 1 - 0 = t0 by have := HT0.out; omega]; exact HR0.out⟩, hbq⟩
  case round =>
    obtain ⟨i, k, Ls, hiL, hk8, rfl, rfl, hown3, hinv, hbel⟩ := hrel
    by_cases hlt : i < L
    · have hil : (i : Int) < L := by omega
      obtain ⟨s, hs⟩ : ∃ s, s = L - 1 - i := ⟨_, rfl⟩
      obtain ⟨L1, hL1⟩ : ∃ L1, L1 = L - 1 := ⟨_, rfl⟩
      have e1 : (L : Int) - 1 = (L1 : Int) := by omega
      have e2 : (L1 : Int) - (i : Int) = (s : Int) := by omega
      have hsL : s < L := by omega
      have hsi : (s : Int) < L := by omega
      obtain ⟨hT1, hT2, hT3, hT4⟩ := hT.row s hsL
      have hq2 := HQ.out
      have hcell : wr.cell? ⟨g, s, none⟩ = some (.slice (some ⟨G s, O s, none⟩) (tierC W s).length (C s)) :=
        (hbel.cell (p := ⟨g, s, none⟩) hgq).trans ((hown.cellAt s (by omega)).trans (topT_at W G O C hsL))
      have hcr := hT4.below (by rw [← HQ.out]; exact hbel)
      have hkT : k ≤ (tierC W s).length := by rw [hs]; exact hinv.out.2.2 hlt
      have hT8 := tier_len_le W s
      have hkC : k ≤ C s := by omega
      have hki : (k : Int) ≤ ((tierC W s).length : Int) := by omega
      have hkc : (k : Int) ≤ (C s : Int) := by omega
      obtain ⟨hb1', hb2'⟩ := buy_step W (buyC W L k0) (i := i) (t := s) (k := k) (by rw [hinv.out.2.1, show L - i = s + 1 by omega])
      have hsp := buy_next HSR.out s k hkT
      have HC := Lib.hid (countLeaves_c (some ⟨G s, O s, none⟩) k (C s) (tierC W s) wr (hcr.few hkT) hkT (by omega))
      obtain ⟨x, hx⟩ : ∃ x, x = lcn ((tierC W s).take k) := ⟨_, rfl⟩
      have hxk : x ≤ k := by rw [hx]; exact hsp.1
      have HNX : Hid (i + 1 < L → 2 * (k - x) ≤ (tierC W (L - 1 - (i + 1))).length) := by
        intro h9
        rw [show L - 1 - (i + 1) = s - 1 by omega, hx]
        exact hsp.2.2 (by omega)
      rw [← hx] at hb1' hb2' HC
      have HB1 := Lib.hid hb1'
      have HB2 := Lib.hid hb2'
      have HSL : Hid (L - (i + 1) = s) := by unfold Hid; omega
      have hx2 : 2 * (k - x) ≤ 800 := by
        have h7 := hsp.2.1
        have hWl := HWN.out
        rw [← hx] at h7
        omega
      clear hx hb1' hb2' hsp hT1 hT2 hT3 hT4 hs hL1 hq2
      generalize (tierC W s).length = tl at *
      obtain ⟨gs, hgs⟩ : ∃ y, y = G s := ⟨_, rfl⟩
      obtain ⟨os, hos⟩ : ∃ y, y = O s := ⟨_, rfl⟩
      obtain ⟨cs, hcs⟩ : ∃ y, y = C s := ⟨_, rfl⟩
      rw [← hgs, ← hos, ← hcs] at hcell HC
      rw [← hcs] at hkC hkc
      clear hgs hos hcs hcr
      have hLl : Ls.length = L := by have := hown3.1; omega
      obtain ⟨y, hy⟩ : ∃ y, y = 2 * (k - x) := ⟨_, rfl⟩
      obtain ⟨z, hz⟩ : ∃ z, z = k - x := ⟨_, rfl⟩
      have e3 : (k : Int) - (x : Int) = (z : Int) := by omega
      have e4 : 2 * (z : Int) = (y : Int) := by omega
      have HY := Lib.hid hy
      clear hy hz
      go_wp2_with fail
      refine HC.out.mono ?_
      rintro e w4 ⟨rfl, hb4⟩
      have hown4 := own_below hown3 hb4
      have hbel4 := hbel.trans (hb4.mono (by have := hbel.size; have := HQ.out; omega))
      obtain ⟨v0, hv0⟩ := some_atV (L := Ls) (j := i) (by omega)
      have c0 := (hown4.cellAt i (by omega)).trans hv0
      have f0 := hown4.frozenAt i
      have s0 := hown4.stored i (.int .i64 (x : Nat))
      have c1 := (s0.1.cellAt i (by omega)).trans (show (Ls.set i (.int .i64 (x : Nat)))[i]? = some (.int .i64 (x : Nat)) by simp [hLl, hlt])
      have hC : Hid (∀ j, j < i + 1 → (Ls.set i (.int .i64 (x : Nat)))[j]? = some (.int .i64 ((buyC W L k0).getD j 0 : Nat))) := by
        intro j hj
        rw [List.getElem?_set]
        by_cases e : i = j
        · subst e
          rw [if_pos rfl, if_pos (by omega), HB1.out]
        · rw [if_neg e]
          exact hinv.out.1 j (by omega)
      have S0 := Lib.hid s0.1
      have HB5 := Lib.hid (show Below q w1 (w4.setCell ⟨q, i, none⟩ (.int .i64 (x : Nat))) from hbel4.setCell (Nat.le_refl _) _)
      clear s0 hown4 hown3 hv0
      go_wp2
      go_roundw
      case rel => exact ⟨i + 1, y, _, by omega, by have := HY.out; omega, by go_num, by go_num, S0.out, ⟨hC.out, by rw [HB2.out, HSL.out, HY.out], fun h9 => by rw [HY.out]; exact HNX.out h9⟩, HB5.out⟩
      case measure => simp [intOf]; omega
    · obtain rfl : i = L := by omega
      have hil : ¬ (i : Int) < (i : Int) := by omega
      have hfin : Hid (Ls = iN (bestC W i)) := by
        rw [HB.out]
        have hbl := buyC_length W i k0
        refine iN_ext (by have := hown3.1; omega) fun j hj => hinv.out.1 j (by omega)
      go_wp2
      go_ret
      rw [hfin.out] at hown3
      refine ⟨q, rfl, ?_, ?_⟩
      · exact own_base2 hown3 (by rw [HQ.out]; exact hb1.size)
      · exact hb1.trans ((show Below w1.heap.size w1 wr by rw [← HQ.out]; exact hbel).mono hb1.size)
end Go.Proofs.Ytfnjjeopojdnjaa
