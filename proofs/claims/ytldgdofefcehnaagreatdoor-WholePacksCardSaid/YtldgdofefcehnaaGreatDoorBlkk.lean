/-
  WHAT block's putLengths NEEDS: rows of runs, frequencies that are right, rows beside a writer. No conditions.
  THE CONTRACT OF block's putLengths. No conditions.
  THE CONTRACT OF block's Dynamic. No conditions.
  THE CONTRACTS OF block's FixedBits; of Dynamic, where a token is wrong. No conditions.
-/
import Derived.Test.YtldgdofefcehnaaGreatDoorBlkg
import Derived.Test.YtldgdofefcehnaaGreatDoorBlki
import Derived.Test.YtldgdofefcehnaaGreatDoorBlkj
import Derived.Test.YtldgdofefcehnaaGreatDoorBlkf
namespace Go.Proofs.YtldgdofefcehnaaGreatDoor
section
open Go.RowKit
set_option maxRecDepth 1000000
set_option linter.unusedVariables false
def rg (R : List Rn) (i : Nat) : Rn := R.getD i ⟨0, 0, 0, 0⟩
theorem rg_lt {R : List Rn} {i : Nat} (h : i < R.length) : rg R i = R[i] := by simp [rg, List.getD, h]
theorem take_rg {R : List Rn} {i : Nat} (h : i < R.length) : R.take (i + 1) = R.take i ++ [rg R i] := by rw [rg_lt h, List.take_succ_eq_append_getElem h]
theorem rnC_cons (r : Rn) (R : List Rn) : rnC (r :: R) = [.int .i64 r.s, .int .i64 r.z, .int .i64 r.v] ++ rnC R := rfl
theorem rnC_at : ∀ (R : List Rn) (i : Nat), i < R.length → (rnC R)[i * 3]? = some (.int .i64 (rg R i).s) ∧ (rnC R)[i * 3 + 1]? = some (.int .i64 (rg R i).z) ∧ (rnC R)[i * 3 + 2]? = some (.int .i64 (rg R i).v) := by
 intro R
 induction R with
 | nil => intro i h; simp at h
 | cons r R ih =>
  intro i h
  rw [rnC_cons]
  cases i with
  | zero => exact ⟨rfl, rfl, rfl⟩
  | succ i =>
   have h1 := ih i (by simpa using h)
   have e : ∀ j, ([Value.int .i64 r.s, .int .i64 r.z, .int .i64 r.v] ++ rnC R)[(i + 1) * 3 + j]? = (rnC R)[i * 3 + j]? := fun j => by
    rw [List.getElem?_append_right (by simp; omega)]
    congr 1
    simp
    omega
   have e2 : rg (r :: R) (i + 1) = rg R i := by simp [rg]
   rw [e2]
   exact ⟨(e 0).trans h1.1, (e 1).trans h1.2.1, (e 2).trans h1.2.2⟩
structure RRow (w : World) (A : Option Addr) (n : Nat) (R : List Rn) : Prop where
 len : R.length = n
 top : 0 < n → ∃ b, A = some ⟨b, 0, none⟩ ∧ b < w.heap.size ∧ ∀ i, i < n → w.cell? ⟨b, i * 3, none⟩ = some (.int .i64 (rg R i).s) ∧ w.cell? ⟨b, i * 3 + 1, none⟩ = some (.int .i64 (rg R i).z) ∧ w.cell? ⟨b, i * 3 + 2, none⟩ = some (.int .i64 (rg R i).v)
theorem RRow.ofOwn {w : World} {base n c : Nat} {A : Option Addr} {R : List Rn} (h : w.ownsRow base 159 3 (.slice A n c) n (rnC R)) (hl : R.length = n) : RRow w A n R := by
 refine ⟨hl, fun hn => ?_⟩
 rcases h.2 with ⟨_, h0⟩ | ⟨g, c', cur, hv, hb, hg, _⟩
 ·omega
 ·injection hv with hv _ _
  subst hv
  refine ⟨g, rfl, (h.lt g rfl).2, fun i hi => ?_⟩
  obtain ⟨h1, h2, h3⟩ := rnC_at R i (by omega)
  exact ⟨(h.cellAt (i * 3) (by omega)).trans h1, (h.cellAt (i * 3 + 1) (by omega)).trans h2, (h.cellAt (i * 3 + 2) (by omega)).trans h3⟩
theorem RRow.below {w w' : World} {A : Option Addr} {n : Nat} {R : List Rn} (h : RRow w A n R) (hb : Below w.heap.size w w') : RRow w' A n R :=
 ⟨h.len, fun hn => by
  obtain ⟨b, e, hl, hc⟩ := h.top hn
  exact ⟨b, e, by have := hb.size; omega, fun i hi => ⟨(hb.cell (p := ⟨b, i * 3, none⟩) hl).trans (hc i hi).1, (hb.cell (p := ⟨b, i * 3 + 1, none⟩) hl).trans (hc i hi).2.1, (hb.cell (p := ⟨b, i * 3 + 2, none⟩) hl).trans (hc i hi).2.2⟩⟩⟩
theorem RRow.wout {w w' : World} {A : Option Addr} {n p : Nat} {R : List Rn} {a b : Option Nat} (h : RRow w A n R) (ho : WOut p a b w w') (hA : ∀ b, A = some ⟨b, 0, none⟩ → b ≠ p ∧ a ≠ some b) : RRow w' A n R :=
 ⟨h.len, fun hn => by
  obtain ⟨b, e, hl, hc⟩ := h.top hn
  obtain ⟨h1, h2⟩ := hA b e
  have hk := ho.block b hl h1 h2
  exact ⟨b, e, by have := ho.size; omega, fun i hi => ⟨(World.cell?_of_block (a := ⟨b, i * 3, none⟩) hk).trans (hc i hi).1, (World.cell?_of_block (a := ⟨b, i * 3 + 1, none⟩) hk).trans (hc i hi).2.1, (World.cell?_of_block (a := ⟨b, i * 3 + 2, none⟩) hk).trans (hc i hi).2.2⟩⟩⟩
theorem RRow.at_ {w : World} {A : Option Addr} {n : Nat} {R : List Rn} (h : RRow w A n R) {i : Nat} (hi : i < n) : ∃ b, A = some ⟨b, 0, none⟩ ∧ b < w.heap.size ∧ w.cell? ⟨b, i * 3, none⟩ = some (.int .i64 (rg R i).s) ∧ w.cell? ⟨b, i * 3 + 1, none⟩ = some (.int .i64 (rg R i).z) ∧ w.cell? ⟨b, i * 3 + 2, none⟩ = some (.int .i64 (rg R i).v) := by
 obtain ⟨b, e, hl, hc⟩ := h.top (by omega)
 exact ⟨b, e, hl, hc i hi⟩
structure RnOk (r : Rn) : Prop where
 s : r.s ≤ 18
 z : r.z ≤ 7
 v : r.v < 128
theorem RunOk.rn {l : List Int} {n a : Nat} {r : Rn} (h : RunOk l n a r.s r.z r.v r.c) : RnOk r := by
 rcases h.alt with ⟨h1, h2, h3, _⟩ | ⟨h1, h2, h3, _⟩ | ⟨h1, h2, h3, _⟩ | ⟨h1, h2, h3, _⟩ <;> exact ⟨by omega, by omega, by omega⟩
theorem RTo.all {l : List Int} {n a : Nat} {R : List Rn} (h : RTo l n R a) : ∀ r ∈ R, RnOk r := by
 induction h with
 | nil => intro r hr; cases hr
 | snoc r h1 h2 ih =>
  intro x hx
  rcases List.mem_append.1 hx with hx | hx
  ·exact ih x hx
  ·obtain rfl := List.mem_singleton.1 hx
   exact h2.rn
theorem RTo.at_ {l : List Int} {n a i : Nat} {R : List Rn} (h : RTo l n R a) (hi : i < R.length) : RnOk (rg R i) := by
 rw [rg_lt hi]
 exact h.all _ (List.getElem_mem hi)
def rF (R : List Rn) : Nat → Nat := R.foldl (fun f r => bump f r.s) fun _ => 0
theorem rFold_le (s : Nat) : ∀ (R : List Rn) (f : Nat → Nat), R.foldl (fun f r => bump f r.s) f s ≤ f s + R.length := by
 intro R
 induction R with
 | nil => intro f; exact Nat.le_refl _
 | cons t r ih =>
  intro f
  have h1 := ih (bump f t.s)
  have h2 := bump_le f t.s s
  rw [List.foldl_cons, List.length_cons]
  omega
theorem rF_le (R : List Rn) (s : Nat) : rF R s ≤ R.length := by have := rFold_le s R (fun _ => 0); simpa [rF] using this
theorem rF_take {R : List Rn} {i : Nat} (h : i < R.length) : rF (R.take (i + 1)) = bump (rF (R.take i)) (rg R i).s := by
 unfold rF
 rw [take_rg h, List.foldl_append]
 rfl
theorem FreqB_mono {fr : List Int} {n : Nat} (h : ∀ i, i < n → 0 ≤ gi fr i ∧ gi fr i ≤ 1073741824) : FreqB fr n = true := by
 induction n with
 | zero => rfl
 | succ n ih =>
  unfold FreqB
  rw [ih (fun i hi => h i (by omega)), decide_eq_true (h n (by omega))]
  rfl
theorem comeN_le (fr : List Int) (n : Nat) : (comeN fr n).length ≤ n := by
 induction n with
 | zero => exact Nat.le_refl _
 | succ n ih => rw [come_succ]; split <;> omega
theorem chk_fR {n : Nat} (f : Nat → Nat) (hf : ∀ s, f s ≤ 1000000) (hn : n ≤ 288) (L : Nat) (hL : 1 ≤ L ∧ L ≤ 15) (hp : n ≤ 2 ^ L) : chkE (fR n f) n (L : Int) = 0 := by
 unfold chkE
 rw [if_neg (by omega), if_neg (by omega), if_neg (by
  rw [FreqB_mono fun i hi => by rw [fR_at f hi]; have := hf i; omega]
  simp), if_neg (by
  have := comeN_le (fR n f) n
  rw [Int.toNat_natCast]
  omega)]
theorem fR_row {w : World} {base n g : Nat} {f : Nat → Nat} (h : w.ownsRow base 3 1 (.slice (some ⟨g, 0, none⟩) n n) n (iC (fR n f))) (hf : ∀ s, f s ≤ 1000000) (hn : n ≤ 1000) : IRow w (some ⟨g, 0, none⟩) n .i64 (fR n f) :=
 IRow.ofOwn h (fun i hi => by rw [fR_at f hi]; exact wf_nat _ (by have := hf i; omega)) (by unfold maxLen; omega)
theorem ordN_at14 {i : Nat} (h : i < 19) : gi ordL i = ((ordN.getD i 0 : Nat) : Int) ∧ ordN.getD i 0 < 19 := by
 have : ∀ i, i < 19 → gi ordL i = ((ordN.getD i 0 : Nat) : Int) ∧ ordN.getD i 0 < 19 := by decide +kernel
 exact this i h
end
section
open Go.RowKit
set_option maxRecDepth 1000000
set_option linter.unusedVariables false
def oF (LA : Nat → Nat) (i : Nat) : Nat := LA (ordN.getD i 0)
def oN (LA : Nat → Nat) : Nat := toldN (fR 19 (oF LA)) 4 19
def thB (LA : Nat → Nat) : Nat → List Bool
 | 0 => []
 | k + 1 => thB LA k ++ putB (oF LA k) 3
def rnB (l : List Int) (R : List Rn) : List Bool := R.flatMap fun r => symB l r.s r.z r.v
theorem rnB_snoc (l : List Int) (R : List Rn) (r : Rn) : rnB l (R ++ [r]) = rnB l R ++ symB l r.s r.z r.v := by simp [rnB]
def plB (LA : Nat → Nat) (R : List Rn) : List Bool := putB (oN LA - 4) 4 ++ thB LA (oN LA) ++ rnB (nI (arr LA 19)) R
def upTo (f : Nat → Nat) (i : Nat) : Nat → Nat := fun j => if j < i then f j else 0
theorem fR_zero (n : Nat) : List.replicate n (0 : Int) = fR n fun _ => 0 := by
 refine List.ext_getElem (by simp [fR]) fun i h1 h2 => ?_
 simp [fR]
theorem fR_up (f : Nat → Nat) {n i : Nat} (h : i < n) : (iC (fR n (upTo f i))).set i (.int .i64 (f i : Nat)) = iC (fR n (upTo f (i + 1))) := by
 refine List.ext_getElem (by simp [iC, fR]) fun j h1 h2 => ?_
 simp only [iC, fR, List.getElem_set, List.getElem_map, List.getElem_range, upTo]
 by_cases e : i = j
 ·subst e; simp
 ·rw [if_neg e]
  by_cases h3 : j < i
  ·rw [if_pos h3, if_pos (by omega)]
  ·rw [if_neg h3, if_neg (by omega)]
theorem fR_full (f : Nat → Nat) (n : Nat) : fR n (upTo f n) = fR n f := by
 refine List.ext_getElem (by simp [fR]) fun j h1 h2 => ?_
 simp only [fR, List.getElem_map, List.getElem_range, upTo]
 rw [fR_length] at h1
 rw [if_pos h1]
theorem upTo_zero (f : Nat → Nat) : upTo f 0 = fun _ => 0 := by funext j; unfold upTo; rw [if_neg (by omega)]
set_option maxHeartbeats 16000000 in
theorem putLengths_c {w : World} {p : Nat} {A : Option Addr} {len cap m : Nat} {X : List Bool} (h : Wr w p A len cap m X) (C : Option Addr) (n c : Nat) (l : List Int) (hl : IRow w C n .i64 l) (hn : n ≤ 316) (hr : ∀ i, i < n → 0 ≤ gi l i ∧ gi l i ≤ 15) (hroom : m + 64 * n + 300 ≤ 1000000) :
  Calls Tryz.prog 63 #[.pointer (some ⟨p, 0, none⟩), .slice C n c] w fun e w' => e = .returned (.tuple #[]) ∧ ∃ A' len' cap' m' R LA, RTo l n R n ∧ MadeX (fR 19 (rF R)) 19 7 (comeN (fR 19 (rF R)) 19).length LA ∧ Wr w' p A' len' cap' m' (X ++ plB LA R) ∧ m' ≤ m + 64 * n + 100 ∧ WOut p (Value.slice A len cap).ownBlock (Value.slice A' len' cap').ownBlock w w' := by
 obtain ⟨i0, hi, hz0, hz1, hz2⟩ := info_parts info_int
 have H := Lib.hid h
 have HL := Lib.hid hl
 have HR := Lib.hid hr
 have HOC := Lib.hid (Order_c w)
 clear h hl hr
 go_enter Tryz.func63, Tryz.ntmps63
 go_wp2_with fail
 refine HOC.out.mono ?_
 rintro e _ ⟨rfl, rfl⟩
 have HO1 := Lib.hid (ordV_row w)
 have HB1 := Lib.hid (ordV_below w)
 have HS1 := Lib.hid (ordV_size w)
 generalize ordV w = w1 at *
 obtain ⟨go, hgo⟩ : ∃ go, go = w.heap.size := ⟨_, rfl⟩
 rw [← hgo] at HO1 ⊢
 have HGO := Lib.hid hgo
 clear hgo HOC
 go_wp2_with fail
 refine (runsOf_c C n c l w1 (HL.out.below HB1.out) (by omega) HR.out).mono ?_
 rintro e w2 ⟨A2, k, c2, R, rfl, hRk, hkn, hRT, hown2, hb2⟩
 have HRR := Lib.hid (RRow.ofOwn hown2 hRk)
 have HRA : Hid (∀ b, A2 = some ⟨b, 0, none⟩ → w.heap.size ≤ b) := fun b e => by
  subst e
  have h1 := (hown2.lt b rfl).1
  have h2 := HS1.out
  omega
 have HRK := Lib.hid hRk
 have HRT := Lib.hid hRT
 have HO2 := Lib.hid (HO1.out.below hb2)
 have HB2 := Lib.hid (HB1.out.trans (hb2.mono (by have := HS1.out; omega)))
 have hs12 := hb2.size
 have HGO2 : Hid (go < w2.heap.size) := by have := HS1.out; have := HGO.out; unfold Hid; omega
 clear hRk hRT hown2 hb2 HO1 HB1 HL HR hs12
 go_wp2_with (at_make; refine wpList_make_full _ rfl _ _ 49 rfl w2.heap.size 3 i0 (.int .i64 0) 1 Tryz.underlying49 hi hz0 hz1 _ _ _ _ 19 rfl rfl rfl rfl (by rw [hz2]; omega) (by unfold maxLen; omega) (Nat.le_refl _) ?_; intro w3 hown3 hgrow3)
 rw [made_iC, fR_zero] at hown3
 have HB23 : Hid (Below w2.heap.size w2 w3) := (Below.refl _ w2).grown hgrow3 (Nat.le_refl _) (fun k hk => by cases hk)
 obtain ⟨gF, hgF⟩ : ∃ g, g = w2.heap.size := ⟨_, rfl⟩
 rw [← hgF] at hown3 ⊢
 have HGF := Lib.hid hgF
 have HOWN3 := Lib.hid hown3
 clear hgF hgrow3 hown3
 go_wp2
 go_loopw [26] (fun iv wr => ∃ i : Nat, i ≤ k ∧ iv = .int .i64 i ∧ Hid (wr.ownsRow gF 3 1 (.slice (some ⟨gF, 0, none⟩) 19 19) 19 (iC (fR 19 (rF (R.take i))))) ∧ Hid (Below w2.heap.size w2 wr)) (fun iv _ => k - (intOf iv).toNat)
 case atStart => exact ⟨0, by omega, rfl, HOWN3, HB23⟩
 case round =>
  clear HOWN3 HB23
  obtain ⟨i, hik, rfl, hown, hb⟩ := hrel
  by_cases hlt : i < k
  ·have hlti : (i : Int) < (k : Int) := by omega
   obtain ⟨b, rfl, hbl, c0, c1, c2⟩ := (HRR.out.below hb.out).at_ hlt
   have hrn := HRT.out.at_ (i := i) (by rw [HRK.out]; exact hlt)
   have hst : Hid (rF (R.take (i + 1)) = bump (rF (R.take i)) (rg R i).s) := rF_take (by rw [HRK.out]; exact hlt)
   have hyy : rF (R.take i) (rg R i).s ≤ 1000 := by have := rF_le (R.take i) (rg R i).s; rw [List.length_take] at this; omega
   obtain ⟨r, hrr⟩ : ∃ r, r = rg R i := ⟨_, rfl⟩
   rw [← hrr] at c0 c1 c2 hrn hst hyy
   obtain ⟨s, z, v, q⟩ := r
   have hs18 : s ≤ 18 := hrn.s
   dsimp only at c0 c1 c2 hst hyy
   obtain ⟨f, hf⟩ : ∃ f, f = rF (R.take i) := ⟨_, rfl⟩
   rw [← hf] at hown hst hyy
   clear hf hrr hrn
   have hown2 := hown.out.alloc (.cells #[.int .i64 s, .int .i64 z, .int .i64 v] 159)
   have hc := hown2.cellAt s (by omega)
   rw [iC_at (by rw [fR_length]; omega), fR_at f (by omega)] at hc
   have hfz := hown2.frozenAt s
   have HST := Lib.hid (hown2.stored s (.int .i64 ((f s : Nat) + 1 : Int))).1
   have hst2 := HST.out
   rw [fR_bump f (by omega)] at hst2
   have HST2 := Lib.hid hst2
   have HB5 := Lib.hid ((hb.out.alloc hb.out.size (.cells #[.int .i64 s, .int .i64 z, .int .i64 v] 159)).setCell (p := ⟨gF, s, none⟩) (by have := HGF.out; show w2.heap.size ≤ gF; omega) (.int .i64 ((f s : Nat) + 1 : Int)))
   obtain ⟨y, hy⟩ : ∃ y, y = f s := ⟨_, rfl⟩
   rw [← hy] at hc HST2 HB5 hyy
   have hsi : (s : Int) < 19 := by omega
   clear hown2 hst2 HST hy hown hb
   go_wp2
   go_roundw
   case rel => exact ⟨i + 1, by omega, by go_num, by rw [hst.out]; exact HST2, HB5⟩
   case measure => simp [intOf]; omega
  ·obtain rfl : i = k := by omega
   have hlti : ¬ (i : Int) < (i : Int) := by omega
   rw [List.take_of_length_le (by rw [HRK.out]; exact Nat.le_refl _)] at hown
   have HCK := Lib.hid (chk_fR (n := 19) (rF R) (fun s => by have := rF_le R s; have := HRK.out; omega) (by omega) 7 (by omega) (by decide))
   have HFR := Lib.hid (fR_row hown.out (fun s => by have := rF_le R s; have := HRK.out; omega) (by omega))
   have HBR := Lib.hid hb.out
   clear hown hb
   go_wp2_with fail
   refine (best_c _ 19 _ (fR 19 (rF R)) 7 wr HFR.out HCK.out).mono ?_
   rintro e w5 ⟨gL, LA, rfl, hLR, hgL, hmx, hb5⟩
   have HB25 := Lib.hid (HBR.out.trans (hb5.mono HBR.out.size))
   have HB5 := Lib.hid (HB2.out.trans (HB25.out.mono HB2.out.size))
   have HO5 := Lib.hid (HO2.out.below HB25.out)
   have HRR5 := Lib.hid (HRR.out.below HB25.out)
   have HL5 := Lib.hid hLR
   have HMX := Lib.hid hmx
   have HGL : Hid (w.heap.size ≤ gL) := by have := HBR.out.size; have := HB2.out.size; unfold Hid; omega
   have HGO5 : Hid (w.heap.size ≤ go) := by have := HGO.out; unfold Hid; omega
   clear hLR hgL hmx hb5 HBR HB25 HO2 HRR HCK HFR HGF HGO HGO2 HB2
   go_wp2_with (at_make; refine wpList_make_full _ rfl _ _ 49 rfl w5.heap.size 3 i0 (.int .i64 0) 1 Tryz.underlying49 hi hz0 hz1 _ _ _ _ 19 rfl rfl rfl rfl (by rw [hz2]; omega) (by unfold maxLen; omega) (Nat.le_refl _) ?_; intro w6 hown6 hgrow6)
   rw [made_iC, fR_zero, ← upTo_zero (oF LA)] at hown6
   have HB56 : Hid (Below w5.heap.size w5 w6) := (Below.refl _ w5).grown hgrow6 (Nat.le_refl _) (fun k hk => by cases hk)
   obtain ⟨gI, hgI⟩ : ∃ g, g = w5.heap.size := ⟨_, rfl⟩
   rw [← hgI] at hown6 ⊢
   have HGI := Lib.hid hgI
   have HOWN6 := Lib.hid hown6
   clear hgI hgrow6 hown6
   go_wp2
   go_loopw [45] (fun iv wt => ∃ j : Nat, j ≤ 19 ∧ iv = .int .i64 j ∧ Hid (wt.ownsRow gI 3 1 (.slice (some ⟨gI, 0, none⟩) 19 19) 19 (iC (fR 19 (upTo (oF LA) j)))) ∧ Hid (Below w5.heap.size w5 wt)) (fun iv _ => 19 - (intOf iv).toNat)
   case atStart => exact ⟨0, by omega, rfl, HOWN6, HB56⟩
   case round =>
    clear HOWN6 HB56
    obtain ⟨j, hj, rfl, hown, hb⟩ := hrel
    by_cases hlt : j < 19
    ·have hltj : (j : Int) < 19 := by omega
     obtain ⟨b1, o1, e1, _, q1⟩ := (HO5.out.below hb.out).at_ (i := j) hlt
     injection e1 with e1
     injection e1 with e1 e2 _
     subst e1 e2
     obtain ⟨hs1, hs2⟩ := ordN_at14 hlt
     obtain ⟨b3, o3, e3, _, q3⟩ := (HL5.out.below hb.out).at_ (i := ordN.getD j 0) hs2
     injection e3 with e3
     injection e3 with e3 e4 _
     subst e3 e4
     rw [arr_giB LA hs2] at q3
     have hof : Hid (oF LA j = LA (ordN.getD j 0)) := rfl
     obtain ⟨u, hu⟩ : ∃ u, u = LA (ordN.getD j 0) := ⟨_, rfl⟩
     rw [← hu] at q3 hof
     obtain ⟨s, hs⟩ : ∃ s, s = ordN.getD j 0 := ⟨_, rfl⟩
     rw [hs1, ← hs] at q1
     rw [← hs] at q3 hs2
     rw [Nat.zero_add] at q1 q3
     have hsi : (s : Int) < 19 := by omega
     clear hs hs1 hu
     have hc := hown.out.cellAt j (by omega)
     rw [iC_at (by rw [fR_length]; exact hlt), fR_at _ hlt] at hc
     have hfz := hown.out.frozenAt j
     have hst := (hown.out.stored j (.int .i64 (oF LA j : Nat))).1
     rw [fR_up (oF LA) hlt, hof.out] at hst
     have HST := Lib.hid hst
     have HB7 := Lib.hid (hb.out.setCell (p := ⟨gI, j, none⟩) (by have := HGI.out; show w5.heap.size ≤ gI; omega) (.int .i64 (u : Nat)))
     clear hst hown hb hof
     go_wp2
     go_roundw
     case rel => exact ⟨j + 1, by omega, by go_num, HST, HB7⟩
     case measure => simp [intOf]; omega
    ·obtain rfl : j = 19 := by omega
     rw [fR_full] at hown
     have hof7 : ∀ j, oF LA j ≤ 7 := fun j => HMX.out.most _
     have HF7 := Lib.hid hof7
     have HI := Lib.hid (fR_row hown.out (fun s => by have := hof7 s; omega) (by omega))
     have HBT := Lib.hid (HB5.out.trans (hb.out.mono HB5.out.size))
     have HRRT := Lib.hid (HRR5.out.below hb.out)
     have HLT := Lib.hid (HL5.out.below hb.out)
     have HGIw : Hid (w.heap.size ≤ gI) := by have := HGI.out; have := HB5.out.size; unfold Hid; omega
     clear hown hb HO5 HRR5 HL5 HB5 HGI hof7
     go_wp2_with fail
     refine (told_c gI 19 19 (fR 19 (oF LA)) _ HI.out (Nat.le_refl _) (by unfold maxLen; omega) 4).mono ?_
     rintro e _ ⟨rfl, rfl⟩
     have ht1 := toldN_le (fR 19 (oF LA)) 4 19
     have ht2 := toldN_least (fR 19 (oF LA)) 4 19 (by omega)
     obtain ⟨tk, htk⟩ : ∃ tk, tk = toldN (fR 19 (oF LA)) 4 19 := ⟨_, rfl⟩
     rw [← htk] at ht1 ht2 ⊢
     have HTK : Hid (oN LA = tk) := htk.symm
     clear htk
     go_wp2_with fail
     obtain ⟨w7, hw7⟩ : ∃ w7, w7 = wr := ⟨_, rfl⟩
     subst hw7
     obtain ⟨tv, htv⟩ : ∃ tv, tv = tk - 4 := ⟨_, rfl⟩
     have htvi : (tk : Int) - 4 = (tv : Int) := by omega
     rw [htvi]
     have HTV := Lib.hid htv
     clear htvi htv
     have HW7 := Lib.hid (H.out.below HBT.out)
     have HNE : Hid (∀ b, w.heap.size ≤ b → b ≠ p ∧ (Value.slice A len cap).ownBlock ≠ some b) := fun b hb => ⟨by have := H.out.lt; omega, fun e => by have := (H.out.own.lt _ e).2; omega⟩
     have HU7 : Hid (∀ (W : World) (b : Option Nat), WOut p (Value.slice A len cap).ownBlock b w7 W → IRow W (some ⟨gI, 0, none⟩) 19 .i64 (fR 19 (oF LA)) ∧ IRow W (some ⟨gL, 0, none⟩) 19 .i64 (nI (arr LA 19)) ∧ RRow W A2 i R) := fun W b ho =>
      ⟨HI.out.wout ho (fun b' o e => by injection e with e; injection e with e _ _; subst e; exact HNE.out _ HGIw.out), HLT.out.wout ho (fun b' o e => by injection e with e; injection e with e _ _; subst e; exact HNE.out _ HGL.out), HRRT.out.wout ho (fun b' e => HNE.out b' (HRA.out b' e))⟩
     clear HI HLT HRRT HNE
     have htv15 : tv ≤ 15 := by have := HTV.out; omega
     refine (PutB_c HW7.out tv (by omega) 4 (by omega)).mono ?_
     rintro e w8 ⟨rfl, A8, len8, cap8, hW8, hO8⟩
     rw [show heldN 4 32 = 4 from rfl] at hW8
     have HW8 := Lib.hid hW8
     have HO8 := Lib.hid hO8
     clear hW8 hO8 HW7
     go_wp2
     go_loopw [68] (fun iv wt => ∃ (j len' cap' m' : Nat) (A' : Option Addr), j ≤ tk ∧ iv = .int .i64 j ∧ Hid (Wr wt p A' len' cap' m' (X ++ putB tv 4 ++ thB LA j)) ∧ m' ≤ m + 4 + 3 * j ∧ Hid (WOut p (Value.slice A len cap).ownBlock (Value.slice A' len' cap').ownBlock w7 wt)) (fun iv _ => tk - (intOf iv).toNat)
     case atStart => exact ⟨0, len8, cap8, m + 4, A8, by omega, rfl, by rw [show thB LA 0 = [] from rfl, List.append_nil]; exact HW8, by omega, HO8⟩
     case round =>
      clear HW8 HO8
      obtain ⟨j, len', cap', m', A', hj, rfl, hW, hm', hO⟩ := hrel
      by_cases hlt : j < tk
      ·have hltj : (j : Int) < (tk : Int) := by omega
       obtain ⟨b1, o1, e1, _, q1⟩ := (HU7.out _ _ hO.out).1.at_ (i := j) (by omega)
       injection e1 with e1
       injection e1 with e1 e2 _
       subst e1 e2
       rw [fR_at _ (by omega), Nat.zero_add] at q1
       have hu7 := HF7.out j
       have hth : Hid (thB LA (j + 1) = thB LA j ++ putB (oF LA j) 3) := rfl
       obtain ⟨u, hu⟩ : ∃ u, u = oF LA j := ⟨_, rfl⟩
       rw [← hu] at q1 hu7 hth
       clear hu
       go_wp2_with fail
       refine (PutB_c hW.out u (by omega) 3 (by omega)).mono ?_
       rintro e w9 ⟨rfl, A9, len9, cap9, hW9, hO9⟩
       rw [show heldN 3 32 = 3 from rfl, List.append_assoc, ← hth.out] at hW9
       have HW9 := Lib.hid hW9
       have HO9 := Lib.hid (hO.out.trans hO9)
       clear hW9 hO9 q1 hW hO hth
       go_wp2
       go_roundw
       case rel => exact ⟨j + 1, len9, cap9, _, A9, by omega, by go_num, HW9, by omega, HO9⟩
       case measure => simp [intOf]; omega
      ·obtain rfl : j = tk := by omega
       have hltj : ¬ (j : Int) < (j : Int) := by omega
       have HER := Lib.hid (HMX.out.err (by omega) (by omega))
       go_wp2_with fail
       refine (newTableB_c _ 19 _ (nI (arr LA 19)) _ (HU7.out _ _ hO.out).2.1 HER.out).mono ?_
       rintro e w9 ⟨q, gc, TA, lc, S, rfl, ht, hlo, b9⟩
       have HW9 := Lib.hid (hW.out.below b9)
       have HO9 := Lib.hid (hO.out.trans (WOut.ofBelow b9))
       have hpB := hW.out.lt
       have haB := fun g hg => (hW.out.own.lt g hg).2
       have HU9 : Hid (∀ (W : World) (b : Option Nat), WOut p (Value.slice A' len' cap').ownBlock b w9 W → TabIn W q 19 (nI (arr LA 19)) gc TA lc S ∧ RRow W A2 i R) := fun W b ho => ⟨ht.wout hlo ho hpB haB, (HU7.out W _ (HO9.out.trans ho)).2.2⟩
       have HCA := Lib.hid (codeAt_lt (l := nI (arr LA 19)) (by rw [show (nI (arr LA 19)).length = 19 by simp [nI, arr_length]]; exact HER.out))
       clear ht hlo b9 hpB haB HU7 hW hO HER
       go_wp2
       go_loopw [81] (fun iv wt => ∃ (j2 l2 c2 m2 : Nat) (A2' : Option Addr), j2 ≤ i ∧ iv = .int .i64 j2 ∧ Hid (Wr wt p A2' l2 c2 m2 (X ++ putB tv 4 ++ thB LA j ++ rnB (nI (arr LA 19)) (R.take j2))) ∧ m2 ≤ m' + 64 * j2 ∧ Hid (WOut p (Value.slice A' len' cap').ownBlock (Value.slice A2' l2 c2).ownBlock w9 wt)) (fun iv _ => i - (intOf iv).toNat)
       case atStart => exact ⟨0, len', cap', m', A', by omega, rfl, by rw [List.take_zero, show rnB (nI (arr LA 19)) [] = [] from rfl, List.append_nil]; exact HW9, by omega, WOut.refl _ _ _⟩
       case round =>
        clear HW9
        obtain ⟨j2, l2, c2', m2, A2', hj2, rfl, hW, hm2, hO⟩ := hrel
        by_cases hlt : j2 < i
        ·have hltj : (j2 : Int) < (i : Int) := by omega
         obtain ⟨b, rfl, hbl, c0, c1, c2⟩ := (HU9.out _ _ hO.out).2.at_ hlt
         have hrn := HRT.out.at_ (i := j2) (by rw [HRK.out]; exact hlt)
         have hst : Hid (rnB (nI (arr LA 19)) (R.take (j2 + 1)) = rnB (nI (arr LA 19)) (R.take j2) ++ symB (nI (arr LA 19)) (rg R j2).s (rg R j2).z (rg R j2).v) := by
          unfold Hid
          rw [take_rg (by rw [HRK.out]; exact hlt), rnB_snoc]
         obtain ⟨r, hrr⟩ : ∃ r, r = rg R j2 := ⟨_, rfl⟩
         rw [← hrr] at c0 c1 c2 hrn hst
         obtain ⟨s, z, v, q2⟩ := r
         have hs18 : s ≤ 18 := hrn.s
         have hz7 : z ≤ 7 := hrn.z
         have hv128 : v < 128 := hrn.v
         dsimp only at c0 c1 c2 hst
         clear hrr hrn
         have HO1 := Lib.hid (hO.out.alloc (.cells #[.int .i64 s, .int .i64 z, .int .i64 v] 159))
         have HW1 := Lib.hid (hW.out.below ((Below.refl _ _).alloc (Nat.le_refl _) (.cells #[.int .i64 s, .int .i64 z, .int .i64 v] 159)))
         have HTB := Lib.hid (HU9.out _ _ HO1.out).1
         have hcc := HCA.out (s : Int)
         clear hO hW
         go_wp2_with fail
         refine (putSymbol_d HW1.out HTB.out (s : Int) hcc z v (by omega) (by omega)).mono ?_
         rintro e w11 ⟨rfl, A11, l11, c11, m11, hW, hm11, hO⟩
         rw [List.append_assoc, ← hst.out] at hW
         have HW11 := Lib.hid hW
         have HO11 := Lib.hid (HO1.out.trans hO)
         clear hW hO HO1 HW1 HTB hcc c0 c1 c2
         go_wp2
         go_roundw
         case rel => exact ⟨j2 + 1, l11, c11, m11, A11, by omega, by go_num, HW11, by omega, HO11⟩
         case measure => simp [intOf]; omega
        ·obtain rfl : j2 = i := by omega
         have hltj : ¬ (j2 : Int) < (j2 : Int) := by omega
         rw [List.take_of_length_le (by rw [HRK.out]; exact Nat.le_refl _)] at hW
         have eX : X ++ putB tv 4 ++ thB LA j ++ rnB (nI (arr LA 19)) R = X ++ plB LA R := by
          unfold plB
          rw [HTK.out, ← HTV.out]
          simp only [List.append_assoc]
         rw [eX] at hW
         have HOF := Lib.hid ((WOut.ofBelow HBT.out).trans (HO9.out.trans hO.out))
         clear eX hO
         go_wp2
         go_end0
         exact ⟨rfl, A2', l2, c2', m2, R, HRT.out, LA, HMX.out, hW.out, by omega, HOF.out⟩
end
section
open Go.RowKit
set_option maxRecDepth 1000000
set_option linter.unusedVariables false
theorem gi_take {l : List Int} {t i : Nat} (h : i < t) : gi (l.take t) i = gi l i := by simp [gi, List.getD_eq_getElem?_getD, h]
theorem IRow.takeB {w : World} {A : Option Addr} {n k : Nat} {l : List Int} (h : IRow w A n .i64 l) (hk : k ≤ n) : IRow w A k .i64 (l.take k) :=
 ⟨by rw [List.length_take, h.len]; omega, by have := h.max; omega, fun hn => by
  obtain ⟨b, off, e, hl, hc⟩ := h.cells (by omega)
  exact ⟨b, off, e, hl, fun i hi => by rw [gi_take hi]; exact hc i (by omega)⟩, fun i hi => by rw [gi_take hi]; exact h.wf i (by omega)⟩
theorem kr_take (l : List Int) (t : Nat) : ∀ k, k ≤ t → kr (l.take t) k = kr l k ∧ totL (l.take t) k = totL l k := by
 intro k
 induction k with
 | zero => intro _; exact ⟨rfl, rfl⟩
 | succ k ih =>
  intro hk
  obtain ⟨h1, h2⟩ := ih (by omega)
  have e : gi (l.take t) k = gi l k := gi_take (by omega)
  have e2 : lnN (l.take t) k = lnN l k := by unfold lnN; rw [e]
  refine ⟨?_, ?_⟩
  ·show kr (l.take t) k + (if 0 < gi (l.take t) k then 2 ^ (15 - lnN (l.take t) k) else 0) = kr l k + _
   rw [h1, e, e2]
  ·show totL (l.take t) k + lnN (l.take t) k = totL l k + lnN l k
   rw [h2, e2]
theorem kr_flat (l : List Int) (t : Nat) : ∀ k, (∀ i, t ≤ i → i < t + k → gi l i = 0) → kr l (t + k) = kr l t ∧ totL l (t + k) = totL l t := by
 intro k
 induction k with
 | zero => intro _; exact ⟨rfl, rfl⟩
 | succ k ih =>
  intro h
  obtain ⟨h1, h2⟩ := ih (fun i a b => h i a (by omega))
  have e := h (t + k) (by omega) (by omega)
  have e2 : lnN l (t + k) = 0 := by unfold lnN; rw [e]; rfl
  refine ⟨?_, ?_⟩
  ·show kr l (t + k) + (if 0 < gi l (t + k) then 2 ^ (15 - lnN l (t + k)) else 0) = _
   rw [h1, e, if_neg (by omega), Nat.add_zero]
  ·show totL l (t + k) + lnN l (t + k) = _
   rw [h2, e2, Nat.add_zero]
theorem err_told {l : List Int} {n t : Nat} (h : errC l n = 0) (ht : t ≤ n) (hz : ∀ i, t ≤ i → i < n → gi l i = 0) : errC (l.take t) t = 0 := by
 obtain ⟨h1, h2, h3, h4⟩ := errC_zero h
 obtain ⟨k, rfl⟩ : ∃ k, n = t + k := ⟨n - t, by omega⟩
 obtain ⟨a1, a2⟩ := kr_flat l t k hz
 obtain ⟨b1, b2⟩ := kr_take l t t (Nat.le_refl _)
 have hr : RightB (l.take t) t = true := RightB_mono fun i hi => by rw [gi_take hi]; exact RightB_all h2 i (by omega)
 unfold errC
 rw [if_neg (by rw [hr]; simp; omega), b1, b2, ← a1, ← a2, if_neg (by omega), if_neg (by omega)]
def tdL (A : Nat → Nat) (n least : Nat) : List Int := (nI (arr A n)).take (toldN (nI (arr A n)) least n)
theorem tdL_length (A : Nat → Nat) (n least : Nat) : (tdL A n least).length = toldN (nI (arr A n)) least n := by
 unfold tdL
 rw [List.length_take, show (nI (arr A n)).length = n by simp [nI, arr_length]]
 have := toldN_le (nI (arr A n)) least n
 omega
def dynB (ls ds : List Int) (LA : Nat → Nat) (R : List Rn) (T : List Tok) (last : Bool) : List Bool :=
 headB last 2 ++ (putB (ls.length - 257) 5 ++ (putB (ds.length - 1) 5 ++ (plB LA R ++ (toksB ls ds T ++ symB ls 256 0 0))))
def lF (T : List Tok) : Nat → Nat := bump (T.foldl lStep fun _ => 0) 256
def dF (T : List Tok) : Nat → Nat := T.foldl dStep fun _ => 0
theorem lF_le (T : List Tok) (s : Nat) : lF T s ≤ T.length + 1 := by
 have h1 := lFold_le s T (fun _ => 0)
 have h2 := bump_le (T.foldl lStep fun _ => 0) 256 s
 unfold lF
 omega
theorem dF_le (T : List Tok) (s : Nat) : dF T s ≤ T.length := by
 have h1 := dFold_le s T (fun _ => 0)
 unfold dF
 omega
set_option maxHeartbeats 16000000 in
theorem DynamicB_j {w : World} {p : Nat} {A : Option Addr} {len cap m : Nat} {X : List Bool} (h : Wr w p A len cap m X)
  (C : Option Addr) (N c : Nat) (T : List Tok) (hJ : ∀ W b, WOut p (Value.slice A len cap).ownBlock b w W → Tabs W ∧ TRow W C N T) (hN : N ≤ 1000) (hok : okF T = N) (last : Bool) (hroom : m + 128 * N + 40000 ≤ 1000000) :
  Calls Tryz.prog 26 #[.pointer (some ⟨p, 0, none⟩), .slice C N c, .bool last] w fun e w' => e = .returned (.int .i64 0) ∧ ∃ A' len' cap' m' LL LD R LA, MadeX (fR 286 (lF T)) 286 15 (comeN (fR 286 (lF T)) 286).length LL ∧ MadeX (fR 30 (dF T)) 30 15 (comeN (fR 30 (dF T)) 30).length LD ∧ RTo (tdL LL 286 257 ++ tdL LD 30 1) ((tdL LL 286 257).length + (tdL LD 30 1).length) R ((tdL LL 286 257).length + (tdL LD 30 1).length) ∧ MadeX (fR 19 (rF R)) 19 7 (comeN (fR 19 (rF R)) 19).length LA ∧
   Wr w' p A' len' cap' m' (X ++ dynB (tdL LL 286 257) (tdL LD 30 1) LA R T last) ∧ WOut p (Value.slice A len cap).ownBlock (Value.slice A' len' cap').ownBlock w w' := by
 have H := Lib.hid h
 have HJ := Lib.hid hJ
 have HTL := Lib.hid (hJ w _ (WOut.refl _ _ _)).2.len
 have haw := anyWrong_c C N c T w (hJ w _ (WOut.refl _ _ _)).2 (by omega)
 rw [decide_eq_false (by omega : ¬ okF T < N)] at haw
 have HAW := Lib.hid haw
 clear h hJ haw hok
 go_enter Tryz.func26, Tryz.ntmps26
 go_wp2_with fail
 refine HAW.out.mono ?_
 rintro e w1 ⟨rfl, b1⟩
 have B1 := Lib.hid b1
 have HJ1 := Lib.hid (HJ.out w1 _ (WOut.ofBelow b1))
 clear b1 HAW
 go_wp2_with fail
 refine (Count_c C N c T w1 HJ1.out.2 (by omega) HJ1.out.1).mono ?_
 rintro e w2 ⟨gl, gd, rfl, hgl, hgd, hne, hol, hod, b2⟩
 have HL2 := Lib.hid (fR_row hol (fun s => by have := lF_le T s; unfold lF at this; have := HTL.out; omega) (by omega))
 have HD2 := Lib.hid (fR_row hod (fun s => by have := dF_le T s; unfold dF at this; have := HTL.out; omega) (by omega))
 have B2 := Lib.hid (B1.out.trans (b2.mono B1.out.size))
 clear hol hod b2 B1 HJ1 hgl hgd hne
 have HC1 := Lib.hid (chk_fR (n := 286) (lF T) (fun s => by have := lF_le T s; have := HTL.out; omega) (by omega) 15 (by omega) (by decide))
 have HC2 := Lib.hid (chk_fR (n := 30) (dF T) (fun s => by have := dF_le T s; have := HTL.out; omega) (by omega) 15 (by omega) (by decide))
 go_wp2_with fail
 refine (best_c _ 286 _ (fR 286 (lF T)) 15 w2 HL2.out HC1.out).mono ?_
 rintro e w3 ⟨gA, LL, rfl, hLL, hgA, hmL, b3⟩
 have HLL := Lib.hid hLL
 have HML := Lib.hid hmL
 have HGA : Hid (w.heap.size ≤ gA) := by have := B2.out.size; unfold Hid; omega
 have HD3 := Lib.hid (HD2.out.below b3)
 have B3 := Lib.hid (B2.out.trans (b3.mono B2.out.size))
 clear hLL hmL hgA b3 HL2 HD2 B2 HC1
 go_wp2_with fail
 refine (told_c gA 286 286 (nI (arr LL 286)) w3 HLL.out (Nat.le_refl _) (by unfold maxLen; omega) 257).mono ?_
 rintro e _ ⟨rfl, rfl⟩
 have hl1 := toldN_le (nI (arr LL 286)) 257 286
 have hl2 := toldN_least (nI (arr LL 286)) 257 286 (by omega)
 obtain ⟨tl, htl⟩ : ∃ tl, tl = toldN (nI (arr LL 286)) 257 286 := ⟨_, rfl⟩
 have hzl := fun i a b => toldN_zero (nI (arr LL 286)) 257 286 i a b
 rw [← htl] at hl1 hl2 hzl ⊢
 have HLS : Hid (tdL LL 286 257 = (nI (arr LL 286)).take tl) := by unfold Hid tdL; rw [← htl]
 have HRL := Lib.hid (HLL.out.takeB hl1)
 have HEL := Lib.hid (err_told (HML.out.err (by omega) (by omega)) hl1 hzl)
 clear htl hzl HLL
 go_wp2_with fail
 refine (best_c _ 30 _ (fR 30 (dF T)) 15 w3 HD3.out HC2.out).mono ?_
 rintro e w4 ⟨gB, LD, rfl, hLD, hgB, hmD, b4⟩
 have HLD := Lib.hid hLD
 have HMD := Lib.hid hmD
 have HGB : Hid (w.heap.size ≤ gB) := by have := B3.out.size; unfold Hid; omega
 have HRL4 := Lib.hid (HRL.out.below b4)
 have B4 := Lib.hid (B3.out.trans (b4.mono B3.out.size))
 clear hLD hmD hgB b4 HD3 B3 HC2 HRL
 go_wp2_with fail
 refine (told_c gB 30 30 (nI (arr LD 30)) w4 HLD.out (Nat.le_refl _) (by unfold maxLen; omega) 1).mono ?_
 rintro e _ ⟨rfl, rfl⟩
 have hd1 := toldN_le (nI (arr LD 30)) 1 30
 have hd2 := toldN_least (nI (arr LD 30)) 1 30 (by omega)
 obtain ⟨td, htd⟩ : ∃ td, td = toldN (nI (arr LD 30)) 1 30 := ⟨_, rfl⟩
 have hzd := fun i a b => toldN_zero (nI (arr LD 30)) 1 30 i a b
 rw [← htd] at hd1 hd2 hzd ⊢
 have HDS : Hid (tdL LD 30 1 = (nI (arr LD 30)).take td) := by unfold Hid tdL; rw [← htd]
 have HRD4 := Lib.hid (HLD.out.takeB hd1)
 have HED := Lib.hid (err_told (HMD.out.err (by omega) (by omega)) hd1 hzd)
 clear htd hzd HLD
 rw [← HLS.out] at HRL4 HEL
 rw [← HDS.out] at HRD4 HED
 have HTL2 : Hid ((tdL LL 286 257).length = tl) := HRL4.out.len
 have HTD2 : Hid ((tdL LD 30 1).length = td) := HRD4.out.len
 generalize hls : tdL LL 286 257 = ls at *
 generalize hds : tdL LD 30 1 = ds at *
 have HLE := Lib.hid hls
 have HDE := Lib.hid hds
 clear HLS HDS hls hds
 have W4 := Lib.hid (H.out.below B4.out)
 go_wp2_with fail
 refine (begin_c W4.out 2 (by omega) last (by omega)).mono ?_
 rintro e w5 ⟨rfl, A5, len5, cap5, hW5, hO5⟩
 have W5 := Lib.hid hW5
 have O5 := Lib.hid hO5
 have HNE : Hid (∀ b, w.heap.size ≤ b → b ≠ p ∧ (Value.slice A len cap).ownBlock ≠ some b) := fun b hb => ⟨by have := H.out.lt; omega, fun e => by have := (H.out.own.lt _ e).2; omega⟩
 have HU : Hid (∀ (W : World) (b : Option Nat), WOut p (Value.slice A len cap).ownBlock b w4 W → IRow W (some ⟨gA, 0, none⟩) tl .i64 ls ∧ IRow W (some ⟨gB, 0, none⟩) td .i64 ds) := fun W b ho =>
  ⟨HRL4.out.wout ho (fun b' o e => by injection e with e; injection e with e _ _; subst e; exact HNE.out _ HGA.out), HRD4.out.wout ho (fun b' o e => by injection e with e; injection e with e _ _; subst e; exact HNE.out _ HGB.out)⟩
 have HRi : Hid (∀ i, i < tl + td → 0 ≤ gi (ls ++ ds) i ∧ gi (ls ++ ds) i ≤ 15) := fun i hi => by
  have r1 := RightB_all (errC_zero HEL.out).2.1
  have r2 := RightB_all (errC_zero HED.out).2.1
  have h1 := HTL2.out
  by_cases h2 : i < tl
  ·have e : gi (ls ++ ds) i = gi ls i := by unfold gi; rw [List.getD_eq_getElem?_getD, List.getD_eq_getElem?_getD, List.getElem?_append_left (by omega)]
   rw [e]; exact r1 i h2
  ·have e : gi (ls ++ ds) i = gi ds (i - tl) := by unfold gi; rw [List.getD_eq_getElem?_getD, List.getD_eq_getElem?_getD, List.getElem?_append_right (by omega), h1]
   rw [e]; exact r2 (i - tl) (by omega)
 clear hW5 hO5 W4 HRL4 HRD4 HNE
 obtain ⟨tlv, htlv⟩ : ∃ v, v = tl - 257 := ⟨_, rfl⟩
 have htli : (tl : Int) - 257 = (tlv : Int) := by omega
 have HTLV := Lib.hid htlv
 have htl29 : tlv ≤ 29 := by omega
 clear htlv
 go_wp2_with fail
 try rw [htli]
 refine (PutB_c W5.out tlv (by omega) 5 (by omega)).mono ?_
 rintro e w6 ⟨rfl, A6, len6, cap6, hW6, hO6⟩
 rw [show heldN 5 32 = 5 from rfl] at hW6
 have W6 := Lib.hid hW6
 have O6 := Lib.hid (O5.out.trans hO6)
 clear hW6 hO6 W5 O5 htli
 obtain ⟨tdv, htdv⟩ : ∃ v, v = td - 1 := ⟨_, rfl⟩
 have htdi : (td : Int) - 1 = (tdv : Int) := by omega
 have HTDV := Lib.hid htdv
 have htd29 : tdv ≤ 29 := by omega
 clear htdv
 go_wp2_with fail
 try rw [htdi]
 refine (PutB_c W6.out tdv (by omega) 5 (by omega)).mono ?_
 rintro e w7 ⟨rfl, A7, len7, cap7, hW7, hO7⟩
 rw [show heldN 5 32 = 5 from rfl] at hW7
 have W7 := Lib.hid hW7
 have O7 := Lib.hid (O6.out.trans hO7)
 clear hW7 hO7 W6 O6 htdi
 go_wp2_with fail
 refine (Concat_c w7.heap.size 2 2 (fun i => if i = 0 then some ⟨gA, 0, none⟩ else some ⟨gB, 0, none⟩) (fun i => if i = 0 then tl else td) (fun i => if i = 0 then 286 else 30) (fun i => if i = 0 then ls else ds) _ (by simp) (by omega) (by omega) ?_ ?_ (by
   rw [show catI (fun i => if i = 0 then ls else ds) 2 = ls ++ ds by simp [catI], List.length_append, HTL2.out, HTD2.out]; omega)).mono ?_
 ·intro i hi
  have hb := (Blk.new w7 49 #[Value.slice (some ⟨gA, 0, none⟩) tl 286, Value.slice (some ⟨gB, 0, none⟩) td 30]).cell i
  have h4 : i = 0 ∨ i = 1 := by omega
  rcases h4 with rfl | rfl
  ·exact hb
  ·exact hb
 ·intro i hi
  have h4 : i = 0 ∨ i = 1 := by omega
  rcases h4 with rfl | rfl
  ·exact ⟨(HU.out _ _ O7.out).1.alloc _, show 0 < tl by omega⟩
  ·exact ⟨(HU.out _ _ O7.out).2.alloc _, show 0 < td by omega⟩
 rintro e w8 ⟨g8, c8, N8, rfl, hN8, o8, b8⟩
 rw [show catI (fun i => if i = 0 then ls else ds) 2 = ls ++ ds by simp [catI]] at hN8 o8
 have hN8' : N8 = tl + td := by rw [hN8.out, List.length_append, HTL2.out, HTD2.out]
 subst hN8'
 have R8 := Lib.hid (IRow.ofOwn o8 (fun i hi => by have h1 := HRi.out i hi; rw [show gi (ls ++ ds) i = (((gi (ls ++ ds) i).toNat : Nat) : Int) by omega]; exact wf_nat _ (by omega)) (by unfold maxLen; omega))
 have B8 := Lib.hid (belA b8)
 have W8 := Lib.hid (W7.out.below B8.out)
 have O8 := Lib.hid (O7.out.trans (WOut.ofBelow B8.out))
 clear hN8 o8 b8 B8 W7 O7
 go_wp2_with fail
 refine (putLengths_c W8.out (some ⟨g8, 0, none⟩) (tl + td) c8 (ls ++ ds) R8.out (by omega) HRi.out (by omega)).mono ?_
 rintro e w9 ⟨rfl, A9, len9, cap9, m9, R, LA, hRT, hMX, hW9, hm9, hO9⟩
 have W9 := Lib.hid hW9
 have O9 := Lib.hid (O8.out.trans hO9)
 have HRT := Lib.hid hRT
 have HMX := Lib.hid hMX
 clear hRT hMX hW9 hO9 W8 O8 R8
 go_wp2_with fail
 refine (newCodesB_c _ tl _ ls _ td _ ds w9 (HU.out _ _ O9.out).1 (by have := HEL.out; exact this) (HU.out _ _ O9.out).2 (by have := HED.out; exact this)).mono ?_
 rintro e w10 ⟨q, gc, TA, lc, S, r, hc, TB, ld, S2, rfl, ht, hlo, hu, hlu, b10⟩
 have W10 := Lib.hid (W9.out.below b10)
 have O10 := Lib.hid ((WOut.ofBelow B4.out).trans (O9.out.trans (WOut.ofBelow b10)))
 have HT10 := Lib.hid ht
 have HLO := Lib.hid hlo
 have HU10 := Lib.hid hu
 have HLU := Lib.hid hlu
 have HPB : Hid (p < w9.heap.size ∧ ∀ g, (Value.slice A9 len9 cap9).ownBlock = some g → g < w9.heap.size) := ⟨W9.out.lt, fun g hg => (W9.out.own.lt g hg).2⟩
 clear ht hlo hu hlu b10 W9 O9 HU
 go_wp2_with fail
 refine (putToks_j W10.out C N c T (fun W b ho => HJ.out W b (O10.out.trans ho)) HT10.out HLO.out HU10.out HLU.out HPB.out.1 HPB.out.2 (codeAt_lt (by rw [HTL2.out]; exact HEL.out)) (codeAt_lt (by rw [HTD2.out]; exact HED.out)) hN (by omega)).mono ?_
 rintro e w11 ⟨rfl, A11, len11, cap11, m11, hW11, hO11⟩
 have e9 : X ++ headB last 2 ++ putB tlv 5 ++ putB tdv 5 ++ plB LA R ++ toksB ls ds T ++ symB ls 256 0 0 = X ++ dynB ls ds LA R T last := by
  unfold dynB
  rw [HTL2.out, HTD2.out, ← HTLV.out, ← HTDV.out]
  simp only [List.append_assoc]
 rw [e9] at hW11
 have W11 := Lib.hid hW11
 have O11 := Lib.hid (O10.out.trans hO11)
 clear hW11 hO11 e9
 go_wp2
 go_ret
 have f1 := HTL2.out
 have f2 := HTD2.out
 have g1 := HRT.out
 have g2 := W11.out
 rw [← f1, ← f2] at g1
 rw [← HLE.out, ← HDE.out] at g1 g2
 exact ⟨rfl, A11, len11, cap11, m11, LL, LD, R, LA, HML.out, HMD.out, g1, HMX.out, g2, O11.out⟩
theorem DynamicB_c {w0 w : World} {p : Nat} {A : Option Addr} {len cap m : Nat} {X : List Bool} (h : Wr w p A len cap m X) (hb : Below w0.heap.size w0 w) (hp : w0.heap.size ≤ p) (htb : Tabs w0)
  (C : Option Addr) (N c : Nat) (T : List Tok) (hT : TRow w0 C N T) (hN : N ≤ 1000) (hok : okF T = N) (last : Bool) (hroom : m + 128 * N + 40000 ≤ 1000000) :
  Calls Tryz.prog 26 #[.pointer (some ⟨p, 0, none⟩), .slice C N c, .bool last] w fun e w' => e = .returned (.int .i64 0) ∧ ∃ A' len' cap' m' LL LD R LA, MadeX (fR 286 (lF T)) 286 15 (comeN (fR 286 (lF T)) 286).length LL ∧ MadeX (fR 30 (dF T)) 30 15 (comeN (fR 30 (dF T)) 30).length LD ∧ RTo (tdL LL 286 257 ++ tdL LD 30 1) ((tdL LL 286 257).length + (tdL LD 30 1).length) R ((tdL LL 286 257).length + (tdL LD 30 1).length) ∧ MadeX (fR 19 (rF R)) 19 7 (comeN (fR 19 (rF R)) 19).length LA ∧
   Wr w' p A' len' cap' m' (X ++ dynB (tdL LL 286 257) (tdL LD 30 1) LA R T last) ∧ WOut p (Value.slice A len cap).ownBlock (Value.slice A' len' cap').ownBlock w w' :=
 DynamicB_j h C N c T (olderJ h hb hp htb hT) hN hok last hroom
end
section
open Go.RowKit
set_option maxRecDepth 1000000
set_option linter.unusedVariables false
theorem Wr.fresh (w : World) (C : Array Value) (hC : C = #[.slice none 0 0, .int .i64 0]) : Wr (w.alloc (.cells C 45)) w.heap.size none 0 0 0 [] := by
 subst hC
 exact ⟨Blk.new w 45 #[.slice none 0 0, .int .i64 0], World.ownsRow_nil _ _ _ _, rfl, rfl, by omega⟩
set_option maxHeartbeats 2000000 in
theorem FixedBits_c (w : World) (htb : Tabs w) (C : Option Addr) (N c : Nat) (T : List Tok) (hT : TRow w C N T) (hN : N ≤ 1000) (hok : okF T = N) :
  Calls Tryz.prog 128 #[.slice C N c] w fun e w' => e = .returned (.int .i64 ((fixB T false).length : Nat)) ∧ Below w.heap.size w w' := by
 have HW0 := Lib.hid (Wr.fresh w #[.slice none 0 0, .int .i64 0] rfl)
 have HB0 : Hid (Below w.heap.size w (w.alloc (.cells #[.slice none 0 0, .int .i64 0] 45))) := (Below.refl _ _).alloc (Nat.le_refl _) _
 have HF := Lib.hid (FixedB_c HW0.out HB0.out (Nat.le_refl _) htb C N c T hT hN hok false (by omega))
 clear htb hT hok
 go_enter Tryz.func128, Tryz.ntmps128
 go_wp2_with fail
 refine HF.out.mono ?_
 rintro e w1 ⟨rfl, A1, len1, cap1, m1, hW, hO⟩
 have HB1 := Lib.hid (HW0.out.keeps hO HB0.out (Nat.le_refl _))
 have hm : m1 = (fixB T false).length := by have := hW.hn.out; rw [List.nil_append] at this; exact this
 have HM := Lib.hid hm
 have HW := Lib.hid hW
 clear hW hO hm HF HW0 HB0
 go_wp2_with fail
 refine (LenB_c HW.out).mono ?_
 rintro e _ ⟨rfl, rfl⟩
 go_wp2
 go_ret
 rw [← HM.out]
 exact ⟨rfl, HB1.out⟩
end
end Go.Proofs.YtldgdofefcehnaaGreatDoor
