/-
  THE CONTRACTS OF a table's Code and Read. No conditions.
-/
import Derived.Test.YtbphbogolffanaaDoorCanE
import Derived.Test.YtbphbogolffanaaDoorBitC
namespace Go.Proofs.YtbphbogolffanaaDoor
open Go.RowKit
set_option maxRecDepth 100000
set_option linter.unusedVariables false

/-- a symbol's code, and its length: 0 and 0, if it has none -/
def codeAt (l : List Int) (s : Int) : Nat := if 0 ≤ s ∧ s < l.length then codeN l s.toNat else 0
def lenAt (l : List Int) (s : Int) : Nat := if 0 ≤ s ∧ s < l.length then lnN l s.toNat else 0
section
variable {w : World} {p n : Nat} {l : List Int} {gc : Nat} {LA : Option Addr} {lc : Nat} {S : Nat → Value}
theorem cv_step (b : Nat → Bool) (a n : Nat) (hn : n ≤ 15) : bits BinOp.or IntKind.u32 (((cv b a n : Nat) : Int) * 2 % 4294967296) (((b (a + n)).toNat : Nat) : Int) = ((cv b a (n + 1) : Nat) : Int) := by
  have h1 := cv_lt b a n
  have h2 : 2 ^ n ≤ 2 ^ 15 := Nat.pow_le_pow_right (by decide) hn
  have h3 : (2 : Nat) ^ 15 = 32768 := rfl
  have h4 := Bool.toNat_le (b (a + n))
  rw [show ((cv b a n : Nat) : Int) * 2 % 4294967296 = ((2 * cv b a n : Nat) : Int) by omega, u32_or_nat _ _ (by omega) (by omega)]
  show _ = ((2 * cv b a n + (b (a + n)).toNat : Nat) : Int)
  congr 1
  rw [show 2 * cv b a n = cv b a n <<< 1 by rw [Nat.shiftLeft_eq]; omega, ← Nat.shiftLeft_add_eq_or_of_lt (by omega : (b (a + n)).toNat < 2 ^ 1)]
theorem numB_one (bl : List F) (a : Nat) : numB bl a 1 = (rb bl a).toNat := by
  unfold numB bsN bsN
  cases rb bl (a + 0) <;> simp_all
/-- a block is none of a table's -/
structure FarT (r p n gc : Nat) (LA : Option Addr) (S : Nat → Value) : Prop where
  tab : p ≠ r
  cod : 0 < n → gc ≠ r
  len : 0 < n → ∀ b o, LA = some ⟨b, o, none⟩ → b ≠ r
  row : ∀ j, j < 16 → (S j).ownBlock ≠ some r
theorem own_block_at {O : Option Addr} {n c g : Nat} (h : O = some ⟨g, 0, none⟩) : (Value.slice O n c).ownBlock = some g := by subst h; rfl
theorem TabIn.out {w' : World} {r : Nat} (h : TabIn w p n l gc LA lc S) (hf : FarT r p n gc LA S) (ho : Out r (r + 1) w w') : TabIn w' p n l gc LA lc S := by
  have hs := ho.size
  refine ⟨?_, fun i hi => ?_, ?_, fun j hj => ?_, h.ok, fun j hj g hg => by have := h.held j hj g hg; omega⟩
  · have h1 := h.blk
    have h2 := h1.lt
    unfold Blk at h1 ⊢
    rw [ho.block p h2 (by have := hf.tab; omega)]
    exact h1
  · obtain ⟨h1, h2⟩ := h.codes i hi
    refine ⟨by omega, ?_⟩
    rw [World.cell?_of_block (a := ⟨gc, i, none⟩) (ho.block gc h1 (by have := hf.cod (by omega); omega))]
    exact h2
  · refine ⟨h.lens.len, h.lens.max, fun hn => ?_, h.lens.wf⟩
    obtain ⟨b, off, e, hl, hc⟩ := h.lens.cells hn
    refine ⟨b, off, e, by omega, fun i hi => ?_⟩
    rw [World.cell?_of_block (a := ⟨b, off + i, none⟩) (ho.block b hl (by have := hf.len hn b off e; omega))]
    exact hc i hi
  · obtain ⟨O, c, h1, h2⟩ := h.rows j hj
    refine ⟨O, c, h1, fun i hi hij => ?_⟩
    obtain ⟨g, h3, h4, h5⟩ := h2 i hi hij
    refine ⟨g, h3, by omega, ?_⟩
    have hg : g ≠ r := fun e => hf.row j hj (by rw [h1, own_block_at h3, e])
    rw [World.cell?_of_block (a := ⟨g, cL l j i, none⟩) (ho.block g h4 (by omega))]
    exact h5
/-- what is made behind a table is none of its blocks -/
theorem TabIn.far {r : Nat} (h : TabIn w p n l gc LA lc S) (hr : w.heap.size ≤ r) : FarT r p n gc LA S := by
  refine ⟨by have := h.blk.lt; omega, fun hn => by have := (h.codes 0 hn).1; omega, fun hn b o e => ?_, fun j hj e => by have := h.held j hj r e; omega⟩
  obtain ⟨b', off, e2, hl, _⟩ := h.lens.cells hn
  rw [e] at e2
  injection e2 with e2
  injection e2 with e2
  omega
theorem mx_le {l : List Int} (h : RightL l) : mxL l l.length ≤ 15 := by
  by_cases h0 : 0 < mxL l l.length
  · obtain ⟨i, hi, e⟩ := mxL_at l h0
    have := (lnN_int h hi).2
    omega
  · omega
set_option maxHeartbeats 4000000 in
theorem ReadT_c {r : Nat} {A : Option Addr} {len cap at_ : Nat} {bl : List F} (h : TabIn w p n l gc LA lc S) (hr : RdB w r A len cap bl at_) (hfar : FarT r p n gc LA S) :
    Calls Tryd.prog 58 #[.pointer (some ⟨p, 0, none⟩), .pointer (some ⟨r, 0, none⟩)] w fun e w' => ∃ s k er : Nat, e = .returned (.tuple #[.int .i64 s, .int .i64 er]) ∧ RdS l (rb bl) (8 * len) at_ s k er ∧ RdB w' r A len cap bl (at_ + k) ∧ Out r (r + 1) w w' := by
  have hlen := h.ok.len
  have hn := h.ok.few
  have hri := h.ok.right
  have hmx := mx_le hri
  have HF := Lib.hid hfar
  have H := Lib.hid h
  have HR := Lib.hid hr
  have HLEN := Lib.hid hlen
  rw [hlen] at hmx
  have HFS : Hid (∀ j, j ≤ 15 → fK l n j + cN l n j ≤ 4718592) := by unfold Hid; rw [← hlen]; exact fun j hj => fK_small hri (by omega) j hj
  clear h hr hfar hlen hri
  go_enter Tryd.func58, Tryd.ntmps58
  go_wp2
  go_loopw [6, 7] (fun cd i wr => ∃ m : Nat, 1 ≤ m ∧ m ≤ mxL l n + 1 ∧ i = .int .i64 m ∧ cd = .int .u32 ((cv (rb bl) at_ (m - 1) : Nat) : Int) ∧ RdB wr r A len cap bl (at_ + (m - 1)) ∧ Out r (r + 1) w wr ∧ Hid (∀ k, 1 ≤ k → k < m → fK l n k + cN l n k ≤ cv (rb bl) at_ k)) (fun _ i _ => 17 - (intOf i).toNat)
  case atStart => exact ⟨1, by omega, by omega, rfl, rfl, HR.out, Out.refl _ _ _, fun k h1 h2 => by omega⟩
  case round =>
    obtain ⟨m, hm1, hm2, rfl, rfl, hrd, hout, hno⟩ := hrel
    obtain ⟨m', hm'⟩ : ∃ m', m = m' + 1 := ⟨m - 1, by omega⟩
    have hT := H.out.out HF.out hout
    have c35 := hT.blk.cell 35
    rw [List.getElem?_toArray, tabL_most] at c35
    have e1 : m - 1 = m' := by omega
    rw [e1] at hrd ⊢
    have HM := Lib.hid hm'
    by_cases hle : m ≤ mxL l n
    · obtain ⟨M, hM⟩ : ∃ M, M = mxL l n := ⟨_, rfl⟩
      rw [← hM] at c35 hle hmx
      have hmi : (m : Int) ≤ (M : Int) := by omega
      have HMX := Lib.hid hM
      clear hM
      by_cases hbit : at_ + m' + 1 ≤ 8 * len
      · have hb := BitR_ok hrd hbit
        rw [numB_one] at hb
        have HB := Lib.hid hb
        have hcs := cv_step (rb bl) at_ m' (by omega)
        have hfge : fK l n m ≤ cv (rb bl) at_ (m' + 1) := by
          have h1 : fK l n m = 2 * (fK l n m' + cN l n m') := by rw [hm']; rfl
          have h2 : cv (rb bl) at_ (m' + 1) = 2 * cv (rb bl) at_ m' + (rb bl (at_ + m')).toNat := rfl
          by_cases h0 : 1 ≤ m'
          · have := hno.out m' h0 (by omega)
            omega
          · obtain rfl : m' = 0 := by omega
            have : fK l n 0 + cN l n 0 = 0 := rfl
            omega
        have hcvl := cv_lt (rb bl) at_ (m' + 1)
        have hp := Nat.pow_le_pow_right (n := 2) (by decide) (show m' + 1 ≤ 15 by omega)
        obtain ⟨y, hy⟩ : ∃ y, y = cv (rb bl) at_ (m' + 1) := ⟨_, rfl⟩
        obtain ⟨x, hx⟩ : ∃ x, x = cv (rb bl) at_ m' := ⟨_, rfl⟩
        obtain ⟨z, hz⟩ : ∃ z, z = (rb bl (at_ + m')).toNat := ⟨_, rfl⟩
        obtain ⟨f, hf⟩ : ∃ f, f = fK l n m := ⟨_, rfl⟩
        rw [← hy] at hcs hfge hcvl
        rw [← hx, ← hz] at hcs
        rw [← hz] at HB
        rw [← hf] at hfge
        rw [← hx]
        have HY := Lib.hid hy
        have HFm := Lib.hid hf
        obtain ⟨O, c, hS, hrow⟩ := hT.rows m (by omega)
        have HROW := Lib.hid hrow
        have HS := Lib.hid hS
        have hcl := cL_le l m n
        clear hy hx hz hf hT hrow hS hrd hm'
        have hm16 : (m : Int) < 16 := by omega
        have hm17 : (m : Int) < 17 := by omega
        have h32 : y ≤ 32768 := by omega
        obtain ⟨d, hd⟩ : ∃ d, y = f + d := ⟨y - f, by omega⟩
        have hsub : (y : Int) - (f : Int) = (d : Int) := by omega
        have hcn : cN l n m = cL l m n := if_neg (by omega)
        by_cases hhit : d < cL l m n
        · obtain ⟨i, hi, hij, hci⟩ := cL_at hhit
          obtain ⟨g, hg1, hg2, hg3⟩ := HROW.out i hi hij
          rw [hci] at hg3
          have hHit : Hid (RdS l (rb bl) (8 * len) at_ i m 0) := by
            have h1 : lnN l i = m := by unfold lnN; omega
            refine ⟨fun k h2 h3 => by rw [HLEN.out]; exact hno.out k h2 h3, .inl ⟨rfl, hm1, by have := HM.out; omega, by rw [HLEN.out]; exact hi, hij, ?_⟩⟩
            rw [HM.out, ← HY.out]
            unfold codeN
            rw [if_neg (by omega), h1, hci, HLEN.out, ← HFm.out]
            exact hd
          have hdi : (d : Int) < ((cL l m n : Nat) : Int) := by omega
          have HG : Hid (∀ W, Out r (r + 1) wr W → W.cell? ⟨g, d, none⟩ = some (.int .i64 (i : Int))) := fun W ho => by
            rw [World.cell?_of_block (a := ⟨g, d, none⟩) (ho.block g hg2 (by
              have h1 := HF.out.row m (by omega)
              rw [HS.out, own_block_at hg1] at h1
              by_cases e : g = r
              · exact absurd (by rw [e]) h1
              · omega))]
            exact hg3
          have hres : Hid (∀ W, RdB W r A len cap bl (at_ + m' + 1) → RdB W r A len cap bl (at_ + m)) := fun W h => by rw [show at_ + m = at_ + m' + 1 by have := HM.out; omega]; exact h
          subst hg1
          clear hg3 hci hij hi hhit hd hcn HROW
          go_wp2_with (go_at_call 68; refine HB.out.mono ?_; rintro e w2 ⟨rfl, hrd2, hout2⟩; have hout12 := hout.trans hout2; have hT2 := H.out.out HF.out hout12; have q35 := hT2.blk.cell 35; have qf := hT2.blk.cell (2 + m); have qr := hT2.blk.cell (19 + m); rw [List.getElem?_toArray, tabL_most] at q35; rw [List.getElem?_toArray, tabL_first (by omega), ← HFm.out] at qf; rw [List.getElem?_toArray, tabL_row (by omega), HS.out] at qr; clear hT2; have qg := HG.out _ hout2)
          go_ret2
          exact ⟨i, m, 0, rfl, hHit.out, hres.out _ hrd2, hout12⟩
        · have hdi : ¬ (d : Int) < ((cL l m n : Nat) : Int) := by omega
          have hYm : Hid (y = cv (rb bl) at_ m) := by unfold Hid; rw [HY.out, HM.out]
          have hno2 : Hid (∀ k, 1 ≤ k → k < m + 1 → fK l n k + cN l n k ≤ cv (rb bl) at_ k) := fun k h1 h2 => by
            by_cases e : k = m
            · subst e
              rw [hcn, ← HFm.out, ← hYm.out]
              omega
            · exact hno.out k h1 (by omega)
          clear hhit hd hcn HROW
          go_wp2_with (go_at_call 68; refine HB.out.mono ?_; rintro e w2 ⟨rfl, hrd2, hout2⟩; have hout12 := hout.trans hout2; have hT2 := H.out.out HF.out hout12; have q35 := hT2.blk.cell 35; have qf := hT2.blk.cell (2 + m); have qr := hT2.blk.cell (19 + m); rw [List.getElem?_toArray, tabL_most] at q35; rw [List.getElem?_toArray, tabL_first (by omega), ← HFm.out] at qf; rw [List.getElem?_toArray, tabL_row (by omega), HS.out] at qr; clear hT2)
          go_roundw
          case rel => exact ⟨m + 1, by omega, by have := HMX.out; omega, by go_num, by rw [show m + 1 - 1 = m by omega, ← hYm.out], by rw [show at_ + (m + 1 - 1) = at_ + m' + 1 by have := HM.out; omega]; exact hrd2, hout12, hno2⟩
          case measure => have := HMX.out; simp [intOf]; omega
      · have hb := BitR_no hrd (by omega)
        have HB := Lib.hid hb
        have hres : Hid (RdS l (rb bl) (8 * len) at_ 0 m' 20) := by
          refine ⟨fun k h2 h3 => by rw [HLEN.out]; exact hno.out k h2 (by omega), .inr (.inl ⟨rfl, rfl, by rw [HLEN.out]; have := HMX.out; omega, by have := hrd.le; omega, fun h1 => by rw [HLEN.out]; exact hno.out m' h1 (by omega)⟩)⟩
        clear hb hT hm'
        go_wp2_with (go_at_call 68; refine HB.out.mono ?_; rintro e w2 ⟨rfl, hrd2, hout2⟩; have hout12 := hout.trans hout2)
        go_ret2
        exact ⟨0, m', 20, rfl, hres.out, hrd2, hout12⟩
    · have hmi : ¬ (m : Int) ≤ (mxL l n : Int) := by omega
      have hres : Hid (RdS l (rb bl) (8 * len) at_ 0 m' 34) := by
        refine ⟨fun k h2 h3 => by rw [HLEN.out]; exact hno.out k h2 (by omega), .inr (.inr ⟨rfl, rfl, by rw [HLEN.out]; omega, by have := hrd.le; omega, fun h1 => by rw [HLEN.out]; exact hno.out m' h1 (by omega)⟩)⟩
      clear hT hm' hle
      go_wp2
      go_ret2
      exact ⟨0, m', 34, rfl, hres.out, hrd, hout⟩
end
end Go.Proofs.YtbphbogolffanaaDoor
