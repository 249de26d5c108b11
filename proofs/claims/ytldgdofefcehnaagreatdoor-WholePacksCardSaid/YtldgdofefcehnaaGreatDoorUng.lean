/-
  WHAT IS WRITTEN OF LENGTHS IS READ AGAIN, WITHOUT ANY PROGRAM. No conditions.
  A DYNAMIC BLOCK THAT IS WRITTEN UNPACKS, WITHOUT ANY PROGRAM. No conditions.
  COUNTS AND LENGTHS OF ROWS OF TOKENS, WITHOUT ANY PROGRAM. No conditions.
  A STORED BLOCK THAT IS WRITTEN UNPACKS, WITHOUT ANY PROGRAM. No conditions.
  BLOCKS, ONE BEHIND THE OTHER, UNPACK; how long they are at most. WITHOUT ANY PROGRAM. No conditions.
-/
import Derived.Test.YtldgdofefcehnaaGreatDoorBlkk
import Derived.Test.YtldgdofefcehnaaGreatDoorUnb
namespace Go.Proofs.YtldgdofefcehnaaGreatDoor
section
set_option maxRecDepth 100000
set_option linter.unusedVariables false
theorem ownF_at {l : List F} {LA : Nat → Nat} : ∀ (S : List Nat) (own : List Int) {a : Nat} {o : List F}, (∀ s ∈ S, LA s < 8) → AtB l a (S.flatMap fun s => putB (LA s) 3) →
  ownF l S own ⟨a, o⟩ = .ok (S.foldl (fun w s => w.set s ((LA s : Nat) : Int)) own, ⟨a + 3 * S.length, o⟩) := by
 intro S
 induction S with
 | nil => intro own a o _ _; rfl
 | cons s r ih =>
  intro own a o h8 hA
  have hA' : AtB l a (putB (LA s) 3 ++ r.flatMap fun s => putB (LA s) 3) := hA
  have h1 := num_at (o := o) hA'.left
  rw [Nat.mod_eq_of_lt (by have := h8 s (by simp); omega)] at h1
  have hR := hA'.right
  rw [putB_length] at hR
  unfold ownF
  rw [h1, bnd_ok]
  dsimp only
  rw [ih _ (fun x hx => h8 x (by simp [hx])) hR, List.foldl_cons, List.length_cons]
  congr 3
  omega
theorem thB_flat (LA : Nat → Nat) : ∀ k, k ≤ 19 → thB LA k = (ordN.take k).flatMap fun s => putB (LA s) 3 := by
 intro k
 induction k with
 | zero => intro _; rfl
 | succ k ih =>
  intro hk
  have e : ordN.take (k + 1) = ordN.take k ++ [ordN.getD k 0] := by
   have : ∀ k, k < 19 → ordN.take (k + 1) = ordN.take k ++ [ordN.getD k 0] := by decide
   exact this k (by omega)
  show thB LA k ++ putB (oF LA k) 3 = _
  rw [ih (by omega), e, List.flatMap_append]
  simp [oF]
theorem foldSet_length (LA : Nat → Nat) : ∀ (S : List Nat) (own : List Int), (S.foldl (fun w s => w.set s ((LA s : Nat) : Int)) own).length = own.length := by
 intro S
 induction S with
 | nil => intro own; rfl
 | cons s r ih => intro own; rw [List.foldl_cons, ih, List.length_set]
theorem foldSet_at (LA : Nat → Nat) (i : Nat) : ∀ (S : List Nat) (own : List Int), i < own.length → gi (S.foldl (fun w s => w.set s ((LA s : Nat) : Int)) own) i = if i ∈ S then ((LA i : Nat) : Int) else gi own i := by
 intro S
 induction S with
 | nil => intro own _; simp
 | cons s r ih =>
  intro own hi
  rw [List.foldl_cons, ih _ (by rw [List.length_set]; exact hi)]
  by_cases h1 : i ∈ r
  ·rw [if_pos h1, if_pos (by simp [h1])]
  ·rw [if_neg h1]
   by_cases h2 : i = s
   ·subst h2
    rw [if_pos (by simp)]
    simp [gi, hi]
   ·rw [if_neg (by simp [h1, h2])]
    have : s ≠ i := fun e => h2 e.symm
    simp [gi, List.getD_eq_getElem?_getD, this]
theorem own_told (LA : Nat → Nat) : (ordN.take (oN LA)).foldl (fun w s => w.set s ((LA s : Nat) : Int)) (List.replicate 19 0) = nI (arr LA 19) := by
 have hl : ((ordN.take (oN LA)).foldl (fun w s => w.set s ((LA s : Nat) : Int)) (List.replicate 19 0)).length = 19 := by rw [foldSet_length]; simp
 have hl2 : (nI (arr LA 19)).length = 19 := by simp [nI, arr_length]
 refine List.ext_getElem (by rw [hl, hl2]) fun i h1 h2 => ?_
 rw [hl] at h1
 have e1 := foldSet_at LA i (ordN.take (oN LA)) (List.replicate 19 0) (by simpa using h1)
 have e2 := arr_giB LA h1
 have g1 : ∀ (x : List Int) (hx : i < x.length), x[i] = gi x i := fun x hx => by simp [gi, hx]
 rw [g1 _ (by rw [hl]; exact h1), g1 _ (by rw [hl2]; exact h1), e1, e2]
 by_cases h3 : i ∈ ordN.take (oN LA)
 ·rw [if_pos h3]
 ·rw [if_neg h3]
  have hall : ∀ i, i < 19 → ∃ j, j < 19 ∧ ordN.getD j 0 = i := by decide
  obtain ⟨j, hj, hji⟩ := hall i h1
  have hjk : oN LA ≤ j := by
   rcases Nat.lt_or_ge j (oN LA) with h4 | h4
   ·refine absurd ?_ h3
    rw [← hji, List.getD_eq_getElem?_getD, List.getElem?_eq_getElem (show j < ordN.length from hj)]
    exact List.mem_take_iff_getElem.2 ⟨j, by have : ordN.length = 19 := rfl; omega, rfl⟩
   ·exact h4
  have hz := toldN_zero (fR 19 (oF LA)) 4 19 j hjk hj
  rw [fR_at _ hj] at hz
  have : LA i = 0 := by rw [← hji]; exact Int.ofNat.inj hz
  rw [this]
  unfold gi
  rw [List.getD_eq_getElem?_getD, List.getElem?_replicate, if_pos h1]
  rfl
def RFrom (l : List Int) (n : Nat) : List Rn → Nat → Prop
 | [], a => a = n
 | r :: R, a => RunOk l n a r.s r.z r.v r.c ∧ RFrom l n R (a + r.c)
theorem RTo.from_ {l : List Int} {n a : Nat} {R : List Rn} (h : RTo l n R a) : ∀ R', RFrom l n R' a → RFrom l n (R ++ R') 0 := by
 induction h with
 | nil => intro R' h; exact h
 | snoc r h1 h2 ih =>
  intro R' h
  rw [List.append_assoc]
  exact ih _ ⟨h2, h⟩
theorem take_more {row : List Int} {a c : Nat} {x : Int} (hl : a + c ≤ row.length) (h : ∀ i, i < c → gi row (a + i) = x) : row.take a ++ List.replicate c x = row.take (a + c) := by
 refine List.ext_getElem (by simp; omega) fun i h1 h2 => ?_
 simp at h2
 rw [List.getElem_append]
 split
 ·simp
 ·rename_i h3
  simp at h3
  have h4 := h (i - a) (by omega)
  rw [show a + (i - a) = i by omega] at h4
  simp [gi, List.getD_eq_getElem?_getD, List.getElem?_eq_getElem (show i < row.length by omega)] at h4
  simp [h4]
theorem lens_at {l : List F} {c row : List Int} (hc : CodF c) {n : Nat} (hn : row.length = n) : ∀ (R : List Rn) (a f : Nat) {p : Nat} {o : List F}, RFrom row n R a → a ≤ n → (∀ r ∈ R, Has c r.s) → R.length < f → AtB l p (rnB c R) →
  lensF l c n f (row.take a) ⟨p, o⟩ = .ok (row, ⟨p + (rnB c R).length, o⟩) := by
 intro R
 induction R with
 | nil =>
  intro a f p o h ha _ hf hA
  obtain ⟨f, rfl⟩ : ∃ g, f = g + 1 := ⟨f - 1, by simp at hf; omega⟩
  have e : a = n := h
  subst e
  unfold lensF
  rw [if_pos (by simp; omega), List.take_of_length_le (by omega)]
  rfl
 | cons r R ih =>
  intro a f p o h ha hh hf hA
  obtain ⟨f, rfl⟩ : ∃ g, f = g + 1 := ⟨f - 1, by simp at hf; omega⟩
  obtain ⟨h1, h2⟩ := h
  have hA' : AtB l p (symB c r.s r.z r.v ++ rnB c R) := hA
  have hz : r.z ≤ 32 := by have := (RunOk.rn h1).z; omega
  have hhr := hh r (by simp)
  obtain ⟨s1, s2⟩ := symB_at (o := o) hc hhr hz hA'.left
  have hR := hA'.right
  rw [symB_len hc hhr hz] at hR
  have hfit := h1.fits
  have hpos := h1.pos
  have hlen : (row.take a).length = a := by simp; omega
  have hnx := ih (a + r.c) f (p := p + (lnN c r.s + r.z)) (o := o) h2 hfit (fun x hx => hh x (by simp [hx])) (by simp at hf; omega) hR
  have hlt : (rnB c (r :: R)).length = lnN c r.s + r.z + (rnB c R).length := by
   show (symB c r.s r.z r.v ++ rnB c R).length = _
   rw [List.length_append, symB_len hc hhr hz]
  rw [hlt, ← Nat.add_assoc, ← hnx]
  have hrun : ∃ x, runF l c (row.take a) ⟨p, o⟩ = .ok ((x, r.c), ⟨p + (lnN c r.s + r.z), o⟩) ∧ ∀ i, i < r.c → gi row (a + i) = x := by
   unfold runF
   rw [s1, bnd_ok]
   dsimp only
   rcases h1.alt with ⟨q1, q2, q3, q4, q5⟩ | ⟨q1, q2, q3, q4, q5, q6⟩ | ⟨q1, q2, q3, q4, q5⟩ | ⟨q1, q2, q3, q4, q5⟩
   ·rw [if_neg (by omega), if_neg (by omega), if_neg (by omega), q2, q4, Nat.add_zero]
    exact ⟨_, rfl, fun i hi => by obtain rfl : i = 0 := by omega
                                  exact q5⟩
   ·rw [if_pos q1, hlen, if_neg (by omega)]
    rw [q2] at s2 ⊢
    rw [s2, bnd_ok, Nat.mod_eq_of_lt (by omega), show 3 + r.v = r.c by omega]
    refine ⟨_, rfl, fun i hi => ?_⟩
    rw [gi_take (by omega)]
    exact q6 i hi
   ·rw [if_neg (by omega), if_pos q1]
    rw [q2] at s2 ⊢
    rw [s2, bnd_ok, Nat.mod_eq_of_lt (by omega), show 3 + r.v = r.c by omega]
    exact ⟨_, rfl, q5⟩
   ·rw [if_neg (by omega), if_neg (by omega), if_pos q1]
    rw [q2] at s2 ⊢
    rw [s2, bnd_ok, Nat.mod_eq_of_lt (by omega), show 11 + r.v = r.c by omega]
    exact ⟨_, rfl, q5⟩
  obtain ⟨x, hx1, hx2⟩ := hrun
  conv => lhs; unfold lensF
  rw [hlen, if_neg (by omega), hx1, bnd_ok]
  dsimp only
  rw [if_neg (by omega), take_more (by omega) hx2]
end
section
set_option maxRecDepth 100000
set_option linter.unusedVariables false
theorem RTo.len {l : List Int} {n a : Nat} {R : List Rn} (h : RTo l n R a) : R.length ≤ a := by
 induction h with
 | nil => exact Nat.le_refl _
 | snoc r h1 h2 ih =>
  have := h2.pos
  rw [List.length_append]
  simp
  omega
theorem bump_ge (f : Nat → Nat) (k s : Nat) : f s ≤ bump f k s := by unfold bump; split <;> omega
theorem bump_at (f : Nat → Nat) (k : Nat) : 1 ≤ bump f k k := by unfold bump; rw [if_pos rfl]; omega
theorem lStep_ge (f : Nat → Nat) (t : Tok) (s : Nat) : f s ≤ lStep f t s := by
 unfold lStep
 split
 ·exact bump_ge _ _ _
 ·split
  ·exact bump_ge _ _ _
  ·exact Nat.le_refl _
theorem dStep_ge (f : Nat → Nat) (t : Tok) (s : Nat) : f s ≤ dStep f t s := by
 unfold dStep
 split
 ·exact Nat.le_refl _
 ·split
  ·exact bump_ge _ _ _
  ·exact Nat.le_refl _
theorem lFold_ge (s : Nat) : ∀ (T : List Tok) (f : Nat → Nat), f s ≤ T.foldl lStep f s := by
 intro T
 induction T with
 | nil => intro f; exact Nat.le_refl _
 | cons t r ih => intro f; exact Nat.le_trans (lStep_ge f t s) (ih _)
theorem dFold_ge (s : Nat) : ∀ (T : List Tok) (f : Nat → Nat), f s ≤ T.foldl dStep f s := by
 intro T
 induction T with
 | nil => intro f; exact Nat.le_refl _
 | cons t r ih => intro f; exact Nat.le_trans (dStep_ge f t s) (ih _)
theorem lFold_mem {t : Tok} {s : Nat} (h : ∀ f, 1 ≤ lStep f t s) : ∀ (T : List Tok) (f : Nat → Nat), t ∈ T → 1 ≤ T.foldl lStep f s := by
 intro T
 induction T with
 | nil => intro f h; cases h
 | cons x r ih =>
  intro f hm
  rcases List.mem_cons.1 hm with rfl | hm
  ·exact Nat.le_trans (h f) (lFold_ge s r _)
  ·exact ih _ hm
theorem dFold_mem {t : Tok} {s : Nat} (h : ∀ f, 1 ≤ dStep f t s) : ∀ (T : List Tok) (f : Nat → Nat), t ∈ T → 1 ≤ T.foldl dStep f s := by
 intro T
 induction T with
 | nil => intro f h; cases h
 | cons x r ih =>
  intro f hm
  rcases List.mem_cons.1 hm with rfl | hm
  ·exact Nat.le_trans (h f) (dFold_ge s r _)
  ·exact ih _ hm
theorem rFold_ge (s : Nat) : ∀ (R : List Rn) (f : Nat → Nat), f s ≤ R.foldl (fun f r => bump f r.s) f s := by
 intro R
 induction R with
 | nil => intro f; exact Nat.le_refl _
 | cons t r ih => intro f; exact Nat.le_trans (bump_ge f t.s s) (ih _)
theorem rFold_mem {r : Rn} : ∀ (R : List Rn) (f : Nat → Nat), r ∈ R → 1 ≤ R.foldl (fun f r => bump f r.s) f r.s := by
 intro R
 induction R with
 | nil => intro f h; cases h
 | cons x R ih =>
  intro f hm
  rcases List.mem_cons.1 hm with rfl | hm
  ·exact Nat.le_trans (bump_at f _) (rFold_ge _ R _)
  ·exact ih _ hm
theorem has_told {f : Nat → Nat} {n L m least s : Nat} {A : Nat → Nat} (h : MadeX (fR n f) n L m A) (hs : s < n) (hf : 1 ≤ f s) : Has (tdL A n least) s := by
 have h1 := h.pos s hs (by rw [fR_at f hs]; omega)
 have h2 : s < toldN (nI (arr A n)) least n := by
  rcases Nat.lt_or_ge s (toldN (nI (arr A n)) least n) with h3 | h3
  ·exact h3
  ·have := toldN_zero (nI (arr A n)) least n s h3 hs
   rw [arr_giB A hs] at this
   omega
 refine ⟨by rw [tdL_length]; exact h2, ?_⟩
 unfold tdL
 rw [gi_take h2, arr_giB A hs]
 omega
theorem has_made {f : Nat → Nat} {n L m s : Nat} {A : Nat → Nat} (h : MadeX (fR n f) n L m A) (hs : s < n) (hf : 1 ≤ f s) : Has (nI (arr A n)) s := by
 have h1 := h.pos s hs (by rw [fR_at f hs]; omega)
 refine ⟨by simp [nI, arr_length]; exact hs, ?_⟩
 rw [arr_giB A hs]
 omega
theorem cod_told {f : Nat → Nat} {n L least : Nat} {A : Nat → Nat} (h : MadeX (fR n f) n L (comeN (fR n f) n).length A) (hL : L ≤ 15) (hn : n ≤ 288) : CodF (tdL A n least) := by
 refine CodF.of ?_
 rw [tdL_length]
 exact err_told (h.err hL hn) (toldN_le _ _ _) (fun i a b => toldN_zero _ _ _ i a b)
theorem dyn_at {l : List F} {M : Nat} {last : Bool} {T : List Tok} {a : Nat} {o o2 : List F} {LL LD LA : Nat → Nat} {R : List Rn} (h : exF M T o = .ok o2)
  (hL : MadeX (fR 286 (lF T)) 286 15 (comeN (fR 286 (lF T)) 286).length LL) (hD : MadeX (fR 30 (dF T)) 30 15 (comeN (fR 30 (dF T)) 30).length LD)
  (hR : RTo (tdL LL 286 257 ++ tdL LD 30 1) ((tdL LL 286 257).length + (tdL LD 30 1).length) R ((tdL LL 286 257).length + (tdL LD 30 1).length))
  (hM : MadeX (fR 19 (rF R)) 19 7 (comeN (fR 19 (rF R)) 19).length LA)
  (hA : AtB l a (dynB (tdL LL 286 257) (tdL LD 30 1) LA R T last)) :
  unbF l M ⟨a, o⟩ = .ok (last, ⟨a + (dynB (tdL LL 286 257) (tdL LD 30 1) LA R T last).length, o2⟩) := by
 have cl := cod_told (least := 257) hL (by omega) (by omega)
 have cd := cod_told (least := 1) hD (by omega) (by omega)
 have h256 : Has (tdL LL 286 257) 256 := has_told hL (by omega) (bump_at _ _)
 have hcov : ∀ t ∈ T, Cov (tdL LL 286 257) (tdL LD 30 1) t := fun t ht => by
  have hok := (exF_len h).2 t ht
  unfold Cov
  by_cases h0 : t.len = 0
  ·rw [if_pos h0]
   refine has_told hL (by have := t.lit.lt; omega) ?_
   refine Nat.le_trans (lFold_mem (s := t.lit.n) (fun f => ?_) T (fun _ => 0) ht) (bump_ge _ _ _)
   unfold lStep
   rw [if_pos h0]
   exact bump_at _ _
  ·rw [if_neg h0]
   have hm : IsM t := hok.resolve_left h0
   obtain ⟨k, hk, c1, _⟩ := len_ok ⟨hm.1, hm.2.1⟩
   obtain ⟨j, hj, q1, _⟩ := dst_ok ⟨hm.2.2.1, hm.2.2.2⟩
   refine ⟨has_told hL (by omega) ?_, has_told hD (by omega) ?_⟩
   ·refine Nat.le_trans (lFold_mem (s := lenC t.len) (fun f => ?_) T (fun _ => 0) ht) (bump_ge _ _ _)
    unfold lStep
    rw [if_neg h0, if_pos hm]
    exact bump_at _ _
   ·refine dFold_mem (s := dstC t.dist) (fun f => ?_) T (fun _ => 0) ht
    unfold dStep
    rw [if_neg h0, if_pos hm]
    exact bump_at _ _
 have tl1 := toldN_le (nI (arr LL 286)) 257 286
 have tl2 := toldN_least (nI (arr LL 286)) 257 286 (by omega)
 have td1 := toldN_le (nI (arr LD 30)) 1 30
 have td2 := toldN_least (nI (arr LD 30)) 1 30 (by omega)
 rw [← tdL_length] at tl1 tl2 td1 td2
 generalize tdL LL 286 257 = ls at *
 generalize tdL LD 30 1 = ds at *
 have ok1 := toldN_le (fR 19 (oF LA)) 4 19
 have ok2 := toldN_least (fR 19 (oF LA)) 4 19 (by omega)
 have hon : oN LA = toldN (fR 19 (oF LA)) 4 19 := rfl
 rw [← hon] at ok1 ok2
 unfold dynB at hA ⊢
 obtain ⟨h1, h2⟩ := head_at (o := o) (by omega) hA.left
 have e3 : (headB last 2).length = 3 := by simp [headB, putB_length]
 have A1 := hA.right
 rw [e3] at A1
 have n1 := num_at (o := o) A1.left
 rw [Nat.mod_eq_of_lt (by omega)] at n1
 have A2 := A1.right
 rw [putB_length] at A2
 have n2 := num_at (o := o) A2.left
 rw [Nat.mod_eq_of_lt (by omega)] at n2
 have A3 := A2.right
 rw [putB_length] at A3
 have AP := A3.left
 have A4 := A3.right
 unfold plB at AP
 have n3 := num_at (o := o) AP.left.left
 rw [Nat.mod_eq_of_lt (by omega)] at n3
 have A5 := AP.left.right
 rw [putB_length, thB_flat LA _ ok1] at A5
 have o1 := ownF_at (l := l) (LA := LA) (ordN.take (oN LA)) (List.replicate 19 0) (o := o) (fun s _ => by have := hM.most s; omega) A5
 rw [own_told] at o1
 have hordl : (ordN.take (oN LA)).length = oN LA := by rw [List.length_take]; have : ordN.length = 19 := rfl; omega
 rw [hordl] at o1
 have A6 := AP.right
 have hthl : (thB LA (oN LA)).length = 3 * oN LA := by
  have : ∀ k, (thB LA k).length = 3 * k := fun k => by
   induction k with
   | zero => rfl
   | succ k ih =>
    show (thB LA k ++ putB (oF LA k) 3).length = _
    rw [List.length_append, ih, putB_length]
    omega
  exact this _
 rw [List.length_append, putB_length, hthl] at A6
 have hl19 : (nI (arr LA 19)).length = 19 := by simp [nI, arr_length]
 have herr := hM.err (by omega) (by omega)
 have cm : CodF (nI (arr LA 19)) := CodF.of (by rw [hl19]; exact herr)
 have hlsds : (ls ++ ds).length = ls.length + ds.length := List.length_append
 have hfr := hR.from_ [] rfl
 rw [List.append_nil] at hfr
 have hrl := hR.len
 have g1 := lens_at (l := l) cm (n := ls.length + ds.length) hlsds R 0 (ls.length + ds.length + 1) (o := o) hfr (by omega) (fun r hr => has_made hM (by have := (hR.all r hr).s; omega) (rFold_mem R _ hr)) (by omega) A6
 rw [List.take_zero] at g1
 have hpl : (putB (oN LA - 4) 4 ++ thB LA (oN LA) ++ rnB (nI (arr LA 19)) R).length = 4 + 3 * oN LA + (rnB (nI (arr LA 19)) R).length := by rw [List.length_append, List.length_append, putB_length, hthl]
 rw [show plB LA R = putB (oN LA - 4) 4 ++ thB LA (oN LA) ++ rnB (nI (arr LA 19)) R from rfl, hpl] at A4
 have b1 := block_at cl cd h256 h hcov A4
 have g256 : gi (ls ++ ds) 256 ≠ 0 := by
  have e : gi (ls ++ ds) 256 = gi ls 256 := by unfold gi; rw [List.getD_eq_getElem?_getD, List.getD_eq_getElem?_getD, List.getElem?_append_left (by omega)]
  rw [e]
  have := h256.2
  omega
 have hdH : dynHF l ⟨a + 3, o⟩ = .ok ((ls, ds), ⟨a + 3 + 5 + 5 + (4 + 3 * oN LA + (rnB (nI (arr LA 19)) R).length), o⟩) := by
  unfold dynHF
  rw [n1, bnd_ok]
  dsimp only
  rw [n2, bnd_ok]
  dsimp only
  rw [n3, bnd_ok]
  dsimp only
  rw [if_neg (by omega), show oN LA - 4 + 4 = oN LA by omega, o1, bnd_ok]
  dsimp only
  rw [hl19, herr, if_neg (by omega), show ls.length - 257 + 257 + (ds.length - 1 + 1) = ls.length + ds.length by omega]
  rw [show a + 3 + 5 + 5 + 4 + 3 * oN LA = a + 3 + 5 + 5 + (4 + 3 * oN LA) by omega, g1, bnd_ok]
  dsimp only
  rw [if_neg g256, show ls.length - 257 + 257 = ls.length by omega, List.take_left, List.drop_left]
  rw [show a + 3 + 5 + 5 + (4 + 3 * oN LA) + (rnB (nI (arr LA 19)) R).length = a + 3 + 5 + 5 + (4 + 3 * oN LA + (rnB (nI (arr LA 19)) R).length) by omega]
 unfold unbF
 rw [h1, bnd_ok]
 dsimp only
 rw [h2, bnd_ok]
 dsimp only
 rw [if_neg (by omega), if_neg (by omega), if_pos rfl]
 unfold dynF
 rw [hdH, bnd_ok]
 dsimp only
 rw [b1, bnd_ok]
 have hfin : (headB last 2 ++ (putB (ls.length - 257) 5 ++ (putB (ds.length - 1) 5 ++ (plB LA R ++ (toksB ls ds T ++ symB ls 256 0 0))))).length = 3 + (5 + (5 + ((4 + 3 * oN LA + (rnB (nI (arr LA 19)) R).length) + (toksB ls ds T ++ symB ls 256 0 0).length))) := by
  rw [List.length_append, e3, List.length_append, putB_length, List.length_append, putB_length, List.length_append, show plB LA R = putB (oN LA - 4) 4 ++ thB LA (oN LA) ++ rnB (nI (arr LA 19)) R from rfl, hpl]
 rw [hfin]
 refine congrArg Except.ok (Prod.ext ?_ ?_)
 ·cases last <;> rfl
 ·refine congrArg (fun z => Un.mk z o2) ?_
  show a + 3 + 5 + 5 + _ + _ = _
  have e : (toksB ls ds T ++ symB ls ((256 : Nat) : Int) 0 0).length = (toksB ls ds T ++ symB ls 256 0 0).length := rfl
  omega
end
section
set_option maxRecDepth 100000
set_option linter.unusedVariables false
theorem endB_length : (symB fixL 256 0 0).length = 7 := by decide +kernel
theorem fixB_length (T : List Tok) (last : Bool) : (fixB T last).length = 10 + (toksB fixL fixD T).length := by
 unfold fixB
 rw [List.length_append, List.length_append, endB_length, show (headB last 1).length = 3 by simp [headB, putB_length]]
 omega
end
section
set_option maxRecDepth 100000
set_option linter.unusedVariables false
theorem putL_two (v : Nat) : putL v 2 = [ofN (v / 256 ^ 0 % 256), ofN (v / 256 ^ 1 % 256)] := rfl
theorem le2_at {l : List F} {m v : Nat} (hv : v ≤ 65535) (h : ∀ i, i < (putL v 2).length → gt l (m + i) = gt (putL v 2) i) : le2 l m = v := by
 have h0 := h 0 (by rw [putL_length]; omega)
 have h1 := h 1 (by rw [putL_length]; omega)
 rw [Nat.add_zero] at h0
 have e0 : gt (putL v 2) 0 = ofN (v % 256) := by rw [putL_two]; simp [gt]
 have e1 : gt (putL v 2) 1 = ofN (v / 256 % 256) := by rw [putL_two]; simp [gt]
 unfold le2
 rw [h0, h1, e0, e1, ofN_n _ (by omega), ofN_n _ (by omega)]
 omega
theorem take_bytes {l b : List F} {m : Nat} (h : m + b.length ≤ l.length) (hg : ∀ i, i < b.length → gt l (m + i) = gt b i) : (l.drop m).take b.length = b := by
 refine ext_gt (by rw [List.length_take, List.length_drop]; omega) fun i hi => ?_
 rw [List.length_take, List.length_drop] at hi
 rw [← hg i (by omega)]
 unfold gt
 rw [List.getD_eq_getElem?_getD, List.getElem?_take, if_pos (by omega), List.getElem?_drop, ← List.getD_eq_getElem?_getD]
theorem sto_at {l b : List F} {M : Nat} {last : Bool} {X : List Bool} {o : List F} (hb : b.length ≤ 65535) (hM : o.length + b.length ≤ M) (hA : AtB l 0 (stoB X b last)) :
  unbF l M ⟨X.length, o⟩ = .ok (last, ⟨(stoB X b last).length, o ++ b⟩) := by
 have hal : (alB (X ++ headB last 0)).length = 8 * ((X.length + 3 + 7) / 8) := by
  rw [alB_length, List.length_append, show (headB last 0).length = 3 by simp [headB, putB_length]]
 obtain ⟨m, hm⟩ : ∃ m, m = (X.length + 3 + 7) / 8 := ⟨_, rfl⟩
 rw [← hm] at hal
 have hlen : (stoB X b last).length = 8 * (m + 4 + b.length) := by
  unfold stoB
  rw [List.length_append, List.length_append, List.length_append, hal, bitsOf_length, bitsOf_length, bitsOf_length, putL_length, putL_length]
  omega
 rw [hlen]
 unfold stoB at hA
 have A1 := hA.left.left.left
 have A2 := hA.left.left.right
 have A3 := hA.left.right
 have A4 := hA.right
 rw [hal, Nat.zero_add] at A2
 rw [List.length_append, hal, bitsOf_length, putL_length, show 0 + (8 * m + 8 * 2) = 8 * (m + 2) by omega] at A3
 rw [List.length_append, List.length_append, hal, bitsOf_length, bitsOf_length, putL_length, putL_length, show 0 + (8 * m + 8 * 2 + 8 * 2) = 8 * (m + 4) by omega] at A4
 unfold alB at A1
 have AH := A1.left.right
 rw [Nat.zero_add] at AH
 obtain ⟨h1, h2⟩ := head_at (o := o) (by omega) AH
 obtain ⟨c1, d1⟩ := bytes_at A2
 obtain ⟨c2, d2⟩ := bytes_at A3
 obtain ⟨c3, d3⟩ := bytes_at A4
 have e1 := le2_at hb d1
 have e2 := le2_at (by omega) d2
 have e3 := take_bytes c3 d3
 unfold unbF
 rw [h1, bnd_ok]
 dsimp only
 rw [h2, bnd_ok]
 dsimp only
 rw [if_pos rfl]
 unfold stoF
 dsimp only
 rw [← hm, if_neg (by omega), e1, e2, if_neg (by omega), if_neg (by omega), if_neg (by omega), e3, bnd_ok]
 cases last <;> rfl
end
section
set_option maxRecDepth 100000
set_option linter.unusedVariables false
structure BkS (M : Nat) (last : Bool) (X X' : List Bool) (o o' : List F) : Prop where
 pre : ∃ Y, X' = X ++ Y
 more : X.length < X'.length
 un : ∀ l, AtB l 0 X' → unbF l M ⟨X.length, o⟩ = .ok (last, ⟨X'.length, o'⟩)
theorem AtB.behind {l : List F} {X Y : List Bool} (h : AtB l 0 (X ++ Y)) : AtB l X.length Y := by
 have := h.right
 rwa [Nat.zero_add] at this
theorem headB_len (last : Bool) (kind : Nat) : (headB last kind).length = 3 := by simp [headB, putB_length]
theorem BkS.fixed {M : Nat} {last : Bool} {X : List Bool} {T : List Tok} {o o2 : List F} (h : exF M T o = .ok o2) : BkS M last X (X ++ fixB T last) o o2 :=
 ⟨⟨_, rfl⟩, by rw [List.length_append, fixB_length]; omega, fun l hA => by
  rw [List.length_append]
  exact fixed_at (last := last) h hA.behind⟩
def DynY (T : List Tok) (last : Bool) (Y : List Bool) : Prop := ∃ (LL LD LA : Nat → Nat) (R : List Rn), MadeX (fR 286 (lF T)) 286 15 (comeN (fR 286 (lF T)) 286).length LL ∧ MadeX (fR 30 (dF T)) 30 15 (comeN (fR 30 (dF T)) 30).length LD ∧
 RTo (tdL LL 286 257 ++ tdL LD 30 1) ((tdL LL 286 257).length + (tdL LD 30 1).length) R ((tdL LL 286 257).length + (tdL LD 30 1).length) ∧ MadeX (fR 19 (rF R)) 19 7 (comeN (fR 19 (rF R)) 19).length LA ∧ Y = dynB (tdL LL 286 257) (tdL LD 30 1) LA R T last
theorem DynY.pos {T : List Tok} {last : Bool} {Y : List Bool} (h : DynY T last Y) : 0 < Y.length := by
 obtain ⟨LL, LD, LA, R, -, -, -, -, rfl⟩ := h
 unfold dynB
 rw [List.length_append, headB_len]
 omega
theorem RFrom.unique {l : List Int} {n : Nat} : ∀ (R R' : List Rn) (a : Nat), RFrom l n R a → RFrom l n R' a → R = R' := by
 intro R
 induction R with
 | nil =>
  intro R' a h h'
  have e : a = n := h
  cases R' with
  | nil => rfl
  | cons r R' =>
   have h1 := h'.1.fits
   have h2 := h'.1.pos
   omega
 | cons r R ih =>
  intro R' a h h'
  cases R' with
  | nil =>
   have e : a = n := h'
   have h1 := h.1.fits
   have h2 := h.1.pos
   omega
  | cons r' R' =>
   have h1 := h.1.unique h'.1
   have e : r = r' := by
    obtain ⟨e1, e2, e3, e4⟩ := h1
    cases r
    cases r'
    simp only at e1 e2 e3 e4
    rw [e1, e2, e3, e4]
   subst e
   rw [ih R' _ h.2 h'.2]
theorem RTo.unique {l : List Int} {n : Nat} {R R' : List Rn} (h : RTo l n R n) (h' : RTo l n R' n) : R = R' := by
 have h1 := h.from_ [] rfl
 have h2 := h'.from_ [] rfl
 rw [List.append_nil] at h1 h2
 exact RFrom.unique _ _ _ h1 h2
theorem DynY.same {T : List Tok} {last last' : Bool} {Y Y' : List Bool} (h : DynY T last Y) (h' : DynY T last' Y') : ∃ Z, Y = headB last 2 ++ Z ∧ Y' = headB last' 2 ++ Z := by
 obtain ⟨LL, LD, LA, R, h1, h2, h3, h4, rfl⟩ := h
 obtain ⟨LL', LD', LA', R', g1, g2, g3, g4, rfl⟩ := h'
 obtain rfl := h1.unique g1 (by omega)
 obtain rfl := h2.unique g2 (by omega)
 obtain rfl := h3.unique g3
 obtain rfl := h4.unique g4 (by omega)
 exact ⟨_, rfl, rfl⟩
theorem DynY.unique {T : List Tok} {last : Bool} {Y Y' : List Bool} (h : DynY T last Y) (h' : DynY T last Y') : Y = Y' := by
 obtain ⟨Z, e, e'⟩ := h.same h'
 rw [e, e']
theorem DynY.len {T : List Tok} {last last' : Bool} {Y Y' : List Bool} (h : DynY T last Y) (h' : DynY T last' Y') : Y.length = Y'.length := by
 obtain ⟨Z, e, e'⟩ := h.same h'
 rw [e, e', List.length_append, List.length_append, headB_len, headB_len]
theorem BkS.dyn {M : Nat} {last : Bool} {X Y : List Bool} {T : List Tok} {o o2 : List F} (h : exF M T o = .ok o2) (hY : DynY T last Y) : BkS M last X (X ++ Y) o o2 :=
 ⟨⟨_, rfl⟩, by rw [List.length_append]; have := hY.pos; omega, fun l hA => by
  rw [List.length_append]
  obtain ⟨LL, LD, LA, R, h1, h2, h3, h4, rfl⟩ := hY
  exact dyn_at h h1 h2 h3 h4 hA.behind⟩
theorem stoB_pre (X : List Bool) (b : List F) (last : Bool) : ∃ Y, stoB X b last = X ++ Y := by
 unfold stoB alB
 simp only [List.append_assoc]
 exact ⟨_, rfl⟩
theorem stoB_len (X : List Bool) (b : List F) (last : Bool) : (stoB X b last).length = 8 * ((X.length + 10) / 8 + 4 + b.length) := by
 unfold stoB
 simp only [List.length_append, alB_length, bitsOf_length, putL_length, headB_len]
 omega
theorem BkS.sto {M : Nat} {last : Bool} {X : List Bool} {b : List F} {o : List F} (hb : b.length ≤ 65535) (hM : o.length + b.length ≤ M) : BkS M last X (stoB X b last) o (o ++ b) :=
 ⟨stoB_pre X b last, by rw [stoB_len]; omega, fun l hA => sto_at hb hM hA⟩
def UpTo (M : Nat) (X : List Bool) (o : List F) : Prop := ∀ Z, unpF (pack (X ++ Z)) M = loopF (8 * (pack (X ++ Z)).length) (unbF (pack (X ++ Z)) M) ⟨X.length, o⟩
theorem UpTo.nil (M : Nat) : UpTo M [] [] := fun _ => rfl
theorem at_pack (X Z : List Bool) : AtB (pack (X ++ Z)) 0 X := by
 have := AtB.pack [] X Z
 simpa using this
theorem UpTo.done {M : Nat} {X X' : List Bool} {o o' : List F} (h : UpTo M X o) (hb : BkS M true X X' o o') : unpF (pack X') M = .ok ⟨X'.length, o'⟩ := by
 obtain ⟨⟨Y, rfl⟩, hmore, hun⟩ := hb
 have h1 := h Y
 have hA := at_pack (X ++ Y) []
 rw [List.append_nil] at hA
 rw [h1]
 exact loopF_done (hun _ hA)
theorem gt_behind (p o : List F) (i : Nat) : gt (p ++ o) (p.length + i) = gt o i := by
 rw [gt_append, if_neg (by omega), Nat.add_sub_cancel_left]
theorem agL_pre {M K d : Nat} (p : List F) (hMK : M + p.length ≤ K) (hd : 1 ≤ d) : ∀ (k : Nat) {o o2 : List F}, d ≤ o.length → agL M d k o = .ok o2 → agL K d k (p ++ o) = .ok (p ++ o2) := by
 intro k
 induction k with
 | zero => intro o o2 _ h; injection h with h; subst h; rfl
 | succ k ih =>
  intro o o2 ho h
  change (if o.length < M then agL M d k (o ++ [gt o (o.length - d)]) else .error 6) = _ at h
  by_cases hm : o.length < M
  ·rw [if_pos hm] at h
   have h1 := ih (by rw [List.length_append]; omega) h
   show (if (p ++ o).length < K then agL K d k (p ++ o ++ [gt (p ++ o) ((p ++ o).length - d)]) else .error 6) = _
   rw [if_pos (by rw [List.length_append]; omega), List.length_append, show p.length + o.length - d = p.length + (o.length - d) by omega, gt_behind, List.append_assoc]
   exact h1
  ·rw [if_neg hm] at h; cases h
theorem tkF_pre {M K : Nat} (p : List F) (hMK : M + p.length ≤ K) {t : Tok} {o o2 : List F} (h : tkF M t o = .ok o2) : tkF K t (p ++ o) = .ok (p ++ o2) := by
 unfold tkF at h ⊢
 by_cases h1 : t.len = 0
 ·rw [if_pos h1] at h ⊢
  by_cases h2 : o.length < M
  ·rw [if_pos h2] at h
   injection h with h
   subst h
   rw [if_pos (by rw [List.length_append]; omega), List.append_assoc]
  ·rw [if_neg h2] at h; cases h
 ·rw [if_neg h1] at h ⊢
  by_cases h2 : IsM t
  ·rw [if_pos h2] at h ⊢
   by_cases h3 : o.length < t.dist.toNat
   ·rw [if_pos h3] at h; cases h
   ·rw [if_neg h3] at h
    rw [if_neg (by rw [List.length_append]; omega)]
    exact agL_pre p hMK (by have := h2.2.2.1; omega) _ (by omega) h
  ·rw [if_neg h2] at h; cases h
theorem exF_pre {M K : Nat} (p : List F) (hMK : M + p.length ≤ K) : ∀ {T : List Tok} {o o2 : List F}, exF M T o = .ok o2 → exF K T (p ++ o) = .ok (p ++ o2) := by
 intro T
 induction T with
 | nil => intro o o2 h; injection h with h; subst h; rfl
 | cons t r ih =>
  intro o o2 h
  change bndL (tkF M t o) (exF M r) = _ at h
  show bndL (tkF K t (p ++ o)) (exF K r) = _
  cases e : tkF M t o with
  | error z => rw [e] at h; cases h
  | ok x =>
   rw [e] at h
   rw [tkF_pre p hMK e]
   exact ih h
theorem exF_room {M K : Nat} (hMK : M ≤ K) {T : List Tok} {o o2 : List F} (h : exF M T o = .ok o2) : exF K T o = .ok o2 := by
 have := exF_pre (K := K) [] (by simpa using hMK) h
 simpa using this
def litT (b : List F) : List Tok := b.map fun x => ⟨x, 0, 0⟩
theorem litT_length (b : List F) : (litT b).length = b.length := by simp [litT]
theorem litT_snoc (b : List F) (x : F) : litT (b ++ [x]) = litT b ++ [⟨x, 0, 0⟩] := by simp [litT]
theorem exF_lit {M : Nat} : ∀ (b o : List F), o.length + b.length ≤ M → exF M (litT b) o = .ok (o ++ b) := by
 intro b
 induction b with
 | nil => intro o _; show Except.ok o = _; rw [List.append_nil]
 | cons x r ih =>
  intro o h
  rw [List.length_cons] at h
  show bndL (tkF M ⟨x, 0, 0⟩ o) (exF M (litT r)) = _
  have e : tkF M ⟨x, 0, 0⟩ o = .ok (o ++ [x]) := by
   unfold tkF
   rw [if_pos rfl, if_pos (by omega)]
  rw [e, bndL_ok, ih _ (by rw [List.length_append, List.length_singleton]; omega), List.append_assoc]
  rfl
end
end Go.Proofs.YtldgdofefcehnaaGreatDoor
