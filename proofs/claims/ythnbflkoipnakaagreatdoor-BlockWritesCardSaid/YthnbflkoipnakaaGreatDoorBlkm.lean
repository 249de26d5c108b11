/-
  THE CONTRACT OF block's Dynamic. No conditions.
-/
import Derived.Test.YthnbflkoipnakaaGreatDoorBlkl
namespace Go.Proofs.YthnbflkoipnakaaGreatDoor
open Go.RowKit
set_option maxRecDepth 1000000
set_option linter.unusedVariables false

theorem gi_take {l : List Int} {t i : Nat} (h : i < t) : gi (l.take t) i = gi l i := by simp [gi, List.getD_eq_getElem?_getD, h]
theorem IRow.takeB {w : World} {A : Option Addr} {n k : Nat} {l : List Int} (h : IRow w A n .i64 l) (hk : k ≤ n) : IRow w A k .i64 (l.take k) :=
  ⟨by rw [List.length_take, h.len]; omega, by have := h.max; omega, fun hn => by
    obtain ⟨b, off, e, hl, hc⟩ := h.cells (by omega)
    exact ⟨b, off, e, hl, fun i hi => by rw [gi_take hi]; exact hc i (by omega)⟩, fun i hi => by rw [gi_take hi]; exact h.wf i (by omega)⟩
theorem kr_take (l : List Int) (t : Nat) : ∀ k, k ≤ t → kr (l.take t) k = kr l k ∧ totL (l.take t) k = totL l k := by
  intro k
  induction k with
  | zero => intro _; exact ⟨rfl, rfl⟩
  | succ k ih =>
    intro hk
    obtain ⟨h1, h2⟩ := ih (by omega)
    have e : gi (l.take t) k = gi l k := gi_take (by omega)
    have e2 : lnN (l.take t) k = lnN l k := by unfold lnN; rw [e]
    refine ⟨?_, ?_⟩
    · show kr (l.take t) k + (if 0 < gi (l.take t) k then 2 ^ (15 - lnN (l.take t) k) else 0) = kr l k + _
      rw [h1, e, e2]
    · show totL (l.take t) k + lnN (l.take t) k = totL l k + lnN l k
      rw [h2, e2]
theorem kr_flat (l : List Int) (t : Nat) : ∀ k, (∀ i, t ≤ i → i < t + k → gi l i = 0) → kr l (t + k) = kr l t ∧ totL l (t + k) = totL l t := by
  intro k
  induction k with
  | zero => intro _; exact ⟨rfl, rfl⟩
  | succ k ih =>
    intro h
    obtain ⟨h1, h2⟩ := ih (fun i a b => h i a (by omega))
    have e := h (t + k) (by omega) (by omega)
    have e2 : lnN l (t + k) = 0 := by unfold lnN; rw [e]; rfl
    refine ⟨?_, ?_⟩
    · show kr l (t + k) + (if 0 < gi l (t + k) then 2 ^ (15 - lnN l (t + k)) else 0) = _
      rw [h1, e, if_neg (by omega), Nat.add_zero]
    · show totL l (t + k) + lnN l (t + k) = _
      rw [h2, e2, Nat.add_zero]
theorem err_told {l : List Int} {n t : Nat} (h : errC l n = 0) (ht : t ≤ n) (hz : ∀ i, t ≤ i → i < n → gi l i = 0) : errC (l.take t) t = 0 := by
  obtain ⟨h1, h2, h3, h4⟩ := errC_zero h
  obtain ⟨k, rfl⟩ : ∃ k, n = t + k := ⟨n - t, by omega⟩
  obtain ⟨a1, a2⟩ := kr_flat l t k hz
  obtain ⟨b1, b2⟩ := kr_take l t t (Nat.le_refl _)
  have hr : RightB (l.take t) t = true := RightB_mono fun i hi => by rw [gi_take hi]; exact RightB_all h2 i (by omega)
  unfold errC
  rw [if_neg (by rw [hr]; simp; omega), b1, b2, ← a1, ← a2, if_neg (by omega), if_neg (by omega)]
/-- a block's lengths, so far as they are told -/
def tdL (A : Nat → Nat) (n least : Nat) : List Int := (nI (arr A n)).take (toldN (nI (arr A n)) least n)
theorem tdL_length (A : Nat → Nat) (n least : Nat) : (tdL A n least).length = toldN (nI (arr A n)) least n := by
  unfold tdL
  rw [List.length_take, show (nI (arr A n)).length = n by simp [nI, arr_length]]
  have := toldN_le (nI (arr A n)) least n
  omega
/-- the bits of a dynamic block -/
def dynB (ls ds : List Int) (LA : Nat → Nat) (R : List Rn) (T : List Tok) (last : Bool) : List Bool :=
  headB last 2 ++ (putB (ls.length - 257) 5 ++ (putB (ds.length - 1) 5 ++ (plB LA R ++ (toksB ls ds T ++ symB ls 256 0 0))))
def lF (T : List Tok) : Nat → Nat := bump (T.foldl lStep fun _ => 0) 256
def dF (T : List Tok) : Nat → Nat := T.foldl dStep fun _ => 0
theorem lF_le (T : List Tok) (s : Nat) : lF T s ≤ T.length + 1 := by
  have h1 := lFold_le s T (fun _ => 0)
  have h2 := bump_le (T.foldl lStep fun _ => 0) 256 s
  unfold lF
  omega
theorem dF_le (T : List Tok) (s : Nat) : dF T s ≤ T.length := by
  have h1 := dFold_le s T (fun _ => 0)
  unfold dF
  omega
set_option maxHeartbeats 16000000 in
theorem DynamicB_j {w : World} {p : Nat} {A : Option Addr} {len cap m : Nat} {X : List Bool} (h : Wr w p A len cap m X)
    (C : Option Addr) (N c : Nat) (T : List Tok) (hJ : ∀ W b, WOut p (Value.slice A len cap).ownBlock b w W → Tabs W ∧ TRow W C N T) (hN : N ≤ 1000) (hok : okF T = N) (last : Bool) (hroom : m + 128 * N + 40000 ≤ 1000000) :
    Calls Tryz.prog 20 #[.pointer (some ⟨p, 0, none⟩), .slice C N c, .bool last] w fun e w' => e = .returned (.int .i64 0) ∧ ∃ A' len' cap' m' LL LD R LA, MadeX (fR 286 (lF T)) 286 15 (comeN (fR 286 (lF T)) 286).length LL ∧ MadeX (fR 30 (dF T)) 30 15 (comeN (fR 30 (dF T)) 30).length LD ∧ RTo (tdL LL 286 257 ++ tdL LD 30 1) ((tdL LL 286 257).length + (tdL LD 30 1).length) R ((tdL LL 286 257).length + (tdL LD 30 1).length) ∧ MadeX (fR 19 (rF R)) 19 7 (comeN (fR 19 (rF R)) 19).length LA ∧
      Wr w' p A' len' cap' m' (X ++ dynB (tdL LL 286 257) (tdL LD 30 1) LA R T last) ∧ WOut p (Value.slice A len cap).ownBlock (Value.slice A' len' cap').ownBlock w w' := by
  have H := Lib.hid h
  have HJ := Lib.hid hJ
  have HTL := Lib.hid (hJ w _ (WOut.refl _ _ _)).2.len
  have haw := anyWrong_c C N c T w (hJ w _ (WOut.refl _ _ _)).2 (by omega)
  rw [decide_eq_false (by omega : ¬ okF T < N)] at haw
  have HAW := Lib.hid haw
  clear h hJ haw hok
  go_enter Tryz.func20, Tryz.ntmps20
  go_wp2_with fail
  refine HAW.out.mono ?_
  rintro e w1 ⟨rfl, b1⟩
  have B1 := Lib.hid b1
  have HJ1 := Lib.hid (HJ.out w1 _ (WOut.ofBelow b1))
  clear b1 HAW
  go_wp2_with fail
  refine (Count_c C N c T w1 HJ1.out.2 (by omega) HJ1.out.1).mono ?_
  rintro e w2 ⟨gl, gd, rfl, hgl, hgd, hne, hol, hod, b2⟩
  have HL2 := Lib.hid (fR_row hol (fun s => by have := lF_le T s; unfold lF at this; have := HTL.out; omega) (by omega))
  have HD2 := Lib.hid (fR_row hod (fun s => by have := dF_le T s; unfold dF at this; have := HTL.out; omega) (by omega))
  have B2 := Lib.hid (B1.out.trans (b2.mono B1.out.size))
  clear hol hod b2 B1 HJ1 hgl hgd hne
  have HC1 := Lib.hid (chk_fR (n := 286) (lF T) (fun s => by have := lF_le T s; have := HTL.out; omega) (by omega) 15 (by omega) (by decide))
  have HC2 := Lib.hid (chk_fR (n := 30) (dF T) (fun s => by have := dF_le T s; have := HTL.out; omega) (by omega) 15 (by omega) (by decide))
  go_wp2_with fail
  refine (best_c _ 286 _ (fR 286 (lF T)) 15 w2 HL2.out HC1.out).mono ?_
  rintro e w3 ⟨gA, LL, rfl, hLL, hgA, hmL, b3⟩
  have HLL := Lib.hid hLL
  have HML := Lib.hid hmL
  have HGA : Hid (w.heap.size ≤ gA) := by have := B2.out.size; unfold Hid; omega
  have HD3 := Lib.hid (HD2.out.below b3)
  have B3 := Lib.hid (B2.out.trans (b3.mono B2.out.size))
  clear hLL hmL hgA b3 HL2 HD2 B2 HC1
  go_wp2_with fail
  refine (told_c gA 286 286 (nI (arr LL 286)) w3 HLL.out (Nat.le_refl _) (by unfold maxLen; omega) 257).mono ?_
  rintro e _ ⟨rfl, rfl⟩
  have hl1 := toldN_le (nI (arr LL 286)) 257 286
  have hl2 := toldN_least (nI (arr LL 286)) 257 286 (by omega)
  obtain ⟨tl, htl⟩ : ∃ tl, tl = toldN (nI (arr LL 286)) 257 286 := ⟨_, rfl⟩
  have hzl := fun i a b => toldN_zero (nI (arr LL 286)) 257 286 i a b
  rw [← htl] at hl1 hl2 hzl ⊢
  have HLS : Hid (tdL LL 286 257 = (nI (arr LL 286)).take tl) := by unfold Hid tdL; rw [← htl]
  have HRL := Lib.hid (HLL.out.takeB hl1)
  have HEL := Lib.hid (err_told (HML.out.err (by omega) (by omega)) hl1 hzl)
  clear htl hzl HLL
  go_wp2_with fail
  refine (best_c _ 30 _ (fR 30 (dF T)) 15 w3 HD3.out HC2.out).mono ?_
  rintro e w4 ⟨gB, LD, rfl, hLD, hgB, hmD, b4⟩
  have HLD := Lib.hid hLD
  have HMD := Lib.hid hmD
  have HGB : Hid (w.heap.size ≤ gB) := by have := B3.out.size; unfold Hid; omega
  have HRL4 := Lib.hid (HRL.out.below b4)
  have B4 := Lib.hid (B3.out.trans (b4.mono B3.out.size))
  clear hLD hmD hgB b4 HD3 B3 HC2 HRL
  go_wp2_with fail
  refine (told_c gB 30 30 (nI (arr LD 30)) w4 HLD.out (Nat.le_refl _) (by unfold maxLen; omega) 1).mono ?_
  rintro e _ ⟨rfl, rfl⟩
  have hd1 := toldN_le (nI (arr LD 30)) 1 30
  have hd2 := toldN_least (nI (arr LD 30)) 1 30 (by omega)
  obtain ⟨td, htd⟩ : ∃ td, td = toldN (nI (arr LD 30)) 1 30 := ⟨_, rfl⟩
  have hzd := fun i a b => toldN_zero (nI (arr LD 30)) 1 30 i a b
  rw [← htd] at hd1 hd2 hzd ⊢
  have HDS : Hid (tdL LD 30 1 = (nI (arr LD 30)).take td) := by unfold Hid tdL; rw [← htd]
  have HRD4 := Lib.hid (HLD.out.takeB hd1)
  have HED := Lib.hid (err_told (HMD.out.err (by omega) (by omega)) hd1 hzd)
  clear htd hzd HLD
  rw [← HLS.out] at HRL4 HEL
  rw [← HDS.out] at HRD4 HED
  have HTL2 : Hid ((tdL LL 286 257).length = tl) := HRL4.out.len
  have HTD2 : Hid ((tdL LD 30 1).length = td) := HRD4.out.len
  generalize hls : tdL LL 286 257 = ls at *
  generalize hds : tdL LD 30 1 = ds at *
  have HLE := Lib.hid hls
  have HDE := Lib.hid hds
  clear HLS HDS hls hds
  have W4 := Lib.hid (H.out.below B4.out)
  go_wp2_with fail
  refine (begin_c W4.out 2 (by omega) last (by omega)).mono ?_
  rintro e w5 ⟨rfl, A5, len5, cap5, hW5, hO5⟩
  have W5 := Lib.hid hW5
  have O5 := Lib.hid hO5
  have HNE : Hid (∀ b, w.heap.size ≤ b → b ≠ p ∧ (Value.slice A len cap).ownBlock ≠ some b) := fun b hb => ⟨by have := H.out.lt; omega, fun e => by have := (H.out.own.lt _ e).2; omega⟩
  have HU : Hid (∀ (W : World) (b : Option Nat), WOut p (Value.slice A len cap).ownBlock b w4 W → IRow W (some ⟨gA, 0, none⟩) tl .i64 ls ∧ IRow W (some ⟨gB, 0, none⟩) td .i64 ds) := fun W b ho =>
    ⟨HRL4.out.wout ho (fun b' o e => by injection e with e; injection e with e _ _; subst e; exact HNE.out _ HGA.out), HRD4.out.wout ho (fun b' o e => by injection e with e; injection e with e _ _; subst e; exact HNE.out _ HGB.out)⟩
  have HRi : Hid (∀ i, i < tl + td → 0 ≤ gi (ls ++ ds) i ∧ gi (ls ++ ds) i ≤ 15) := fun i hi => by
    have r1 := RightB_all (errC_zero HEL.out).2.1
    have r2 := RightB_all (errC_zero HED.out).2.1
    have h1 := HTL2.out
    by_cases h2 : i < tl
    · have e : gi (ls ++ ds) i = gi ls i := by unfold gi; rw [List.getD_eq_getElem?_getD, List.getD_eq_getElem?_getD, List.getElem?_append_left (by omega)]
      rw [e]; exact r1 i h2
    · have e : gi (ls ++ ds) i = gi ds (i - tl) := by unfold gi; rw [List.getD_eq_getElem?_getD, List.getD_eq_getElem?_getD, List.getElem?_append_right (by omega), h1]
      rw [e]; exact r2 (i - tl) (by omega)
  clear hW5 hO5 W4 HRL4 HRD4 HNE
  obtain ⟨tlv, htlv⟩ : ∃ v, v = tl - 257 := ⟨_, rfl⟩
  have htli : (tl : Int) - 257 = (tlv : Int) := by omega
  have HTLV := Lib.hid htlv
  have htl29 : tlv ≤ 29 := by omega
  clear htlv
  go_wp2_with fail
  try rw [htli]
  refine (PutB_c W5.out tlv (by omega) 5 (by omega)).mono ?_
  rintro e w6 ⟨rfl, A6, len6, cap6, hW6, hO6⟩
  rw [show heldN 5 32 = 5 from rfl] at hW6
  have W6 := Lib.hid hW6
  have O6 := Lib.hid (O5.out.trans hO6)
  clear hW6 hO6 W5 O5 htli
  obtain ⟨tdv, htdv⟩ : ∃ v, v = td - 1 := ⟨_, rfl⟩
  have htdi : (td : Int) - 1 = (tdv : Int) := by omega
  have HTDV := Lib.hid htdv
  have htd29 : tdv ≤ 29 := by omega
  clear htdv
  go_wp2_with fail
  try rw [htdi]
  refine (PutB_c W6.out tdv (by omega) 5 (by omega)).mono ?_
  rintro e w7 ⟨rfl, A7, len7, cap7, hW7, hO7⟩
  rw [show heldN 5 32 = 5 from rfl] at hW7
  have W7 := Lib.hid hW7
  have O7 := Lib.hid (O6.out.trans hO7)
  clear hW7 hO7 W6 O6 htdi
  go_wp2_with fail
  refine (Concat_c w7.heap.size 2 2 (fun i => if i = 0 then some ⟨gA, 0, none⟩ else some ⟨gB, 0, none⟩) (fun i => if i = 0 then tl else td) (fun i => if i = 0 then 286 else 30) (fun i => if i = 0 then ls else ds) _ (by simp) (by omega) (by omega) ?_ ?_ (by
      rw [show catI (fun i => if i = 0 then ls else ds) 2 = ls ++ ds by simp [catI], List.length_append, HTL2.out, HTD2.out]; omega)).mono ?_
  · intro i hi
    have hb := (Blk.new w7 41 #[Value.slice (some ⟨gA, 0, none⟩) tl 286, Value.slice (some ⟨gB, 0, none⟩) td 30]).cell i
    have h4 : i = 0 ∨ i = 1 := by omega
    rcases h4 with rfl | rfl
    · exact hb
    · exact hb
  · intro i hi
    have h4 : i = 0 ∨ i = 1 := by omega
    rcases h4 with rfl | rfl
    · exact ⟨(HU.out _ _ O7.out).1.alloc _, show 0 < tl by omega⟩
    · exact ⟨(HU.out _ _ O7.out).2.alloc _, show 0 < td by omega⟩
  rintro e w8 ⟨g8, c8, N8, rfl, hN8, o8, b8⟩
  rw [show catI (fun i => if i = 0 then ls else ds) 2 = ls ++ ds by simp [catI]] at hN8 o8
  have hN8' : N8 = tl + td := by rw [hN8.out, List.length_append, HTL2.out, HTD2.out]
  subst hN8'
  have R8 := Lib.hid (IRow.ofOwn o8 (fun i hi => by have h1 := HRi.out i hi; rw [show gi (ls ++ ds) i = (((gi (ls ++ ds) i).toNat : Nat) : Int) by omega]; exact wf_nat _ (by omega)) (by unfold maxLen; omega))
  have B8 := Lib.hid (belA b8)
  have W8 := Lib.hid (W7.out.below B8.out)
  have O8 := Lib.hid (O7.out.trans (WOut.ofBelow B8.out))
  clear hN8 o8 b8 B8 W7 O7
  go_wp2_with fail
  refine (putLengths_c W8.out (some ⟨g8, 0, none⟩) (tl + td) c8 (ls ++ ds) R8.out (by omega) HRi.out (by omega)).mono ?_
  rintro e w9 ⟨rfl, A9, len9, cap9, m9, R, LA, hRT, hMX, hW9, hm9, hO9⟩
  have W9 := Lib.hid hW9
  have O9 := Lib.hid (O8.out.trans hO9)
  have HRT := Lib.hid hRT
  have HMX := Lib.hid hMX
  clear hRT hMX hW9 hO9 W8 O8 R8
  go_wp2_with fail
  refine (newCodesB_c _ tl _ ls _ td _ ds w9 (HU.out _ _ O9.out).1 (by have := HEL.out; exact this) (HU.out _ _ O9.out).2 (by have := HED.out; exact this)).mono ?_
  rintro e w10 ⟨q, gc, TA, lc, S, r, hc, TB, ld, S2, rfl, ht, hlo, hu, hlu, b10⟩
  have W10 := Lib.hid (W9.out.below b10)
  have O10 := Lib.hid ((WOut.ofBelow B4.out).trans (O9.out.trans (WOut.ofBelow b10)))
  have HT10 := Lib.hid ht
  have HLO := Lib.hid hlo
  have HU10 := Lib.hid hu
  have HLU := Lib.hid hlu
  have HPB : Hid (p < w9.heap.size ∧ ∀ g, (Value.slice A9 len9 cap9).ownBlock = some g → g < w9.heap.size) := ⟨W9.out.lt, fun g hg => (W9.out.own.lt g hg).2⟩
  clear ht hlo hu hlu b10 W9 O9 HU
  go_wp2_with fail
  refine (putToks_j W10.out C N c T (fun W b ho => HJ.out W b (O10.out.trans ho)) HT10.out HLO.out HU10.out HLU.out HPB.out.1 HPB.out.2 (codeAt_lt (by rw [HTL2.out]; exact HEL.out)) (codeAt_lt (by rw [HTD2.out]; exact HED.out)) hN (by omega)).mono ?_
  rintro e w11 ⟨rfl, A11, len11, cap11, m11, hW11, hO11⟩
  have e9 : X ++ headB last 2 ++ putB tlv 5 ++ putB tdv 5 ++ plB LA R ++ toksB ls ds T ++ symB ls 256 0 0 = X ++ dynB ls ds LA R T last := by
    unfold dynB
    rw [HTL2.out, HTD2.out, ← HTLV.out, ← HTDV.out]
    simp only [List.append_assoc]
  rw [e9] at hW11
  have W11 := Lib.hid hW11
  have O11 := Lib.hid (O10.out.trans hO11)
  clear hW11 hO11 e9
  go_wp2
  go_ret
  have f1 := HTL2.out
  have f2 := HTD2.out
  have g1 := HRT.out
  have g2 := W11.out
  rw [← f1, ← f2] at g1
  rw [← HLE.out, ← HDE.out] at g1 g2
  exact ⟨rfl, A11, len11, cap11, m11, LL, LD, R, LA, HML.out, HMD.out, g1, HMX.out, g2, O11.out⟩
theorem DynamicB_c {w0 w : World} {p : Nat} {A : Option Addr} {len cap m : Nat} {X : List Bool} (h : Wr w p A len cap m X) (hb : Below w0.heap.size w0 w) (hp : w0.heap.size ≤ p) (htb : Tabs w0)
    (C : Option Addr) (N c : Nat) (T : List Tok) (hT : TRow w0 C N T) (hN : N ≤ 1000) (hok : okF T = N) (last : Bool) (hroom : m + 128 * N + 40000 ≤ 1000000) :
    Calls Tryz.prog 20 #[.pointer (some ⟨p, 0, none⟩), .slice C N c, .bool last] w fun e w' => e = .returned (.int .i64 0) ∧ ∃ A' len' cap' m' LL LD R LA, MadeX (fR 286 (lF T)) 286 15 (comeN (fR 286 (lF T)) 286).length LL ∧ MadeX (fR 30 (dF T)) 30 15 (comeN (fR 30 (dF T)) 30).length LD ∧ RTo (tdL LL 286 257 ++ tdL LD 30 1) ((tdL LL 286 257).length + (tdL LD 30 1).length) R ((tdL LL 286 257).length + (tdL LD 30 1).length) ∧ MadeX (fR 19 (rF R)) 19 7 (comeN (fR 19 (rF R)) 19).length LA ∧
      Wr w' p A' len' cap' m' (X ++ dynB (tdL LL 286 257) (tdL LD 30 1) LA R T last) ∧ WOut p (Value.slice A len cap).ownBlock (Value.slice A' len' cap').ownBlock w w' :=
  DynamicB_j h C N c T (olderJ h hb hp htb hT) hN hok last hroom
end Go.Proofs.YthnbflkoipnakaaGreatDoor
