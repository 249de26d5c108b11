/-
  WHAT IS WRITTEN OF SYMBOLS AND TOKENS UNPACKS, WITHOUT ANY PROGRAM. No conditions.
-/
import Derived.Test.YtldgdofefcehnaaGreatDoorInf
import Derived.Test.YtldgdofefcehnaaGreatDoorMch
import Derived.Test.YtldgdofefcehnaaGreatDoorBlkc
namespace Go.Proofs.YtldgdofefcehnaaGreatDoor
set_option maxRecDepth 100000
set_option linter.unusedVariables false
structure AtB (l : List F) (a : Nat) (Y : List Bool) : Prop where
 le : a + Y.length ≤ 8 * l.length
 eq : ∀ i, i < Y.length → rb l (a + i) = gbit Y i
theorem AtB.left {l : List F} {a : Nat} {Y Z : List Bool} (h : AtB l a (Y ++ Z)) : AtB l a Y :=
 ⟨by have := h.le; rw [List.length_append] at this; omega, fun i hi => by rw [h.eq i (by rw [List.length_append]; omega), gbit_append, if_pos hi]⟩
theorem AtB.right {l : List F} {a : Nat} {Y Z : List Bool} (h : AtB l a (Y ++ Z)) : AtB l (a + Y.length) Z :=
 ⟨by have := h.le; rw [List.length_append] at this; omega, fun i hi => by
  have := h.eq (Y.length + i) (by rw [List.length_append]; omega)
  rw [gbit_append, if_neg (by omega), Nat.add_sub_cancel_left, ← Nat.add_assoc] at this
  exact this⟩
theorem AtB.pack (X Y Z : List Bool) : AtB (pack (X ++ Y ++ Z)) X.length Y :=
 ⟨by rw [pack_length, List.length_append, List.length_append]; omega, fun i hi => by
  rw [rb_pack, gbit_append, if_pos (by rw [List.length_append]; omega), gbit_append, if_neg (by omega), Nat.add_sub_cancel_left]⟩
theorem num_at {l : List F} {a v n : Nat} {o : List F} (h : AtB l a (putB v n)) : numF l n ⟨a, o⟩ = .ok (v % 2 ^ n, ⟨a + n, o⟩) := by
 have h1 := h.le
 rw [putB_length] at h1
 have h2 : numB l a n = v % 2 ^ n := by
  unfold numB
  rw [← bsN_testBit]
  exact bsN_congr fun i hi => by rw [h.eq i (by rw [putB_length]; exact hi), gbit_putB, decide_eq_true hi, Bool.true_and]
 unfold numF
 dsimp only
 rw [if_pos h1, h2]
theorem sym_at {l : List F} {c : List Int} {a s : Nat} {o : List F} (hr : RightL c) (hk : kr c c.length ≤ 32768) (h1 : s < c.length) (h2 : 0 < gi c s) (h : AtB l a (codeB (codeN c s) (lnN c s))) :
  symF l c ⟨a, o⟩ = .ok (s, ⟨a + lnN c s, o⟩) := by
 have h3 := lnN_int hr h1
 have h4 := codeN_lt hr hk h1 h2
 have hle := h.le
 rw [codeB_length] at hle
 have hcv : ∀ j, j ≤ lnN c s → cv (rb l) a j = codeN c s / 2 ^ (lnN c s - j) := fun j hj => by
  refine ((head_iff _ _ _ _ h4.2 j hj).1 ?_).symm
  rw [codeB_take _ _ _ hj]
  unfold hdB
  refine List.map_congr_left fun i hi => ?_
  rw [List.mem_range] at hi
  rw [h.eq i (by rw [codeB_length]; omega), gbit_codeB, decide_eq_true (by omega), Bool.true_and]
 have hS : RdS c (rb l) (8 * l.length) a s (lnN c s) 0 := by
  refine ⟨fun j h5 h6 => ?_, .inl ⟨rfl, by omega, hle, h1, h3.1.symm, ?_⟩⟩
  ·rw [hcv j (by omega)]
   have h7 := fK_up c c.length j (lnN c s - j - 1)
   rw [show j + (lnN c s - j - 1 + 1) = lnN c s by omega, show lnN c s - j - 1 + 1 = lnN c s - j by omega] at h7
   have h8 := codeN_ge h2
   exact (Nat.le_div_iff_mul_le (Nat.pow_pos (by decide))).2 (by rw [Nat.mul_comm]; omega)
  ·rw [hcv _ (Nat.le_refl _), Nat.sub_self, Nat.pow_zero, Nat.div_one]
 have e := rdF_eq hr hk (by omega) hS
 unfold symF
 dsimp only
 rw [e]
 exact if_pos rfl
structure CodF (c : List Int) : Prop where
 right : RightL c
 kr : kr c c.length ≤ 32768
 err : errC c c.length = 0
theorem CodF.of {c : List Int} (h : errC c c.length = 0) : CodF c := by
 obtain ⟨_, h1, h2, _⟩ := errC_zero h
 exact ⟨RightB_all h1, h2, h⟩
def Has (c : List Int) (s : Nat) : Prop := s < c.length ∧ 0 < gi c s
theorem heldN_nat (k m : Nat) (h : k ≤ m) : heldN (k : Nat) m = k := by unfold heldN; omega
theorem symB_eq {c : List Int} (hc : CodF c) {s size v : Nat} (h : Has c s) (hz : size ≤ 32) : symB c (s : Nat) size v = codeB (codeN c s) (lnN c s) ++ putB v size := by
 have h1 : 0 ≤ ((s : Nat) : Int) ∧ ((s : Nat) : Int) < c.length := by have := h.1; omega
 have h2 := (lnN_int hc.right h.1).2
 unfold symB codeAt lenAt
 rw [if_pos h1, if_pos h1, Int.toNat_natCast, heldN_nat _ _ (by omega), heldN_nat _ _ hz]
theorem symB_len {c : List Int} (hc : CodF c) {s size v : Nat} (h : Has c s) (hz : size ≤ 32) : (symB c (s : Nat) size v).length = lnN c s + size := by
 rw [symB_eq hc h hz, List.length_append, codeB_length, putB_length]
theorem symB_at {l : List F} {c : List Int} (hc : CodF c) {s size v a : Nat} {o : List F} (h : Has c s) (hz : size ≤ 32) (hA : AtB l a (symB c (s : Nat) size v)) :
  symF l c ⟨a, o⟩ = .ok (s, ⟨a + lnN c s, o⟩) ∧ numF l size ⟨a + lnN c s, o⟩ = .ok (v % 2 ^ size, ⟨a + (lnN c s + size), o⟩) := by
 rw [symB_eq hc h hz] at hA
 refine ⟨sym_at hc.right hc.kr h.1 h.2 hA.left, ?_⟩
 have := hA.right
 rw [codeB_length] at this
 rw [num_at this, Nat.add_assoc]
theorem Has.pos {c : List Int} (hc : CodF c) {s : Nat} (h : Has c s) : 0 < lnN c s := by
 have h1 := (lnN_int hc.right h.1).1
 have h2 := h.2
 omega
theorem fndL_ok (n : Nat) (h : 3 ≤ n) : ∀ k, fndL n k ≤ k ∧ lb (fndL n k) ≤ n ∧ (fndL n k < k → n < lb (fndL n k + 1)) := by
 intro k
 induction k with
 | zero => exact ⟨Nat.le_refl _, h, fun h => absurd h (Nat.lt_irrefl _)⟩
 | succ k ih =>
  unfold fndL
  by_cases h1 : n < lb (k + 1)
  ·rw [if_pos h1]
   refine ⟨by omega, ih.2.1, fun _ => ?_⟩
   rcases Nat.lt_or_ge (fndL n k) k with h2 | h2
   ·exact ih.2.2 h2
   ·have : fndL n k = k := by omega
    rw [this]
    exact h1
  ·rw [if_neg h1]
   exact ⟨Nat.le_refl _, by omega, fun h => absurd h (Nat.lt_irrefl _)⟩
theorem fndD_ok (n : Nat) (h : 1 ≤ n) : ∀ k, fndD n k ≤ k ∧ db (fndD n k) ≤ n ∧ (fndD n k < k → n < db (fndD n k + 1)) := by
 intro k
 induction k with
 | zero => exact ⟨Nat.le_refl _, h, fun h => absurd h (Nat.lt_irrefl _)⟩
 | succ k ih =>
  unfold fndD
  by_cases h1 : n < db (k + 1)
  ·rw [if_pos h1]
   refine ⟨by omega, ih.2.1, fun _ => ?_⟩
   rcases Nat.lt_or_ge (fndD n k) k with h2 | h2
   ·exact ih.2.2 h2
   ·have : fndD n k = k := by omega
    rw [this]
    exact h1
  ·rw [if_neg h1]
   exact ⟨Nat.le_refl _, by omega, fun h => absurd h (Nat.lt_irrefl _)⟩
theorem len_ok {n : Int} (h : 3 ≤ n ∧ n ≤ 258) : ∃ k, k < 29 ∧ lenC n = 257 + k ∧ lenX n = lx k ∧ lx k ≤ 32 ∧ lenV n < 2 ^ lx k ∧ (n : Int) = ((lb k + lenV n : Nat) : Int) := by
 obtain ⟨m, rfl⟩ : ∃ m : Nat, n = (m : Int) := ⟨n.toNat, by omega⟩
 obtain ⟨h1, h2, h3⟩ := fndL_ok m (by omega) 28
 obtain ⟨k, hk⟩ : ∃ k, fndL m 28 = k := ⟨_, rfl⟩
 rw [hk] at h1 h2 h3
 obtain ⟨e1, e2, e3⟩ := len_at (n := m) (by omega) hk
 refine ⟨k, by omega, e1, e2, ?_, ?_, by rw [e3]; omega⟩
 ·unfold lx; split <;> omega
 ·rw [e3]
  rcases Nat.lt_or_ge k 27 with h4 | h4
  ·have h5 := lb_next h4
   have := h3 (by omega)
   omega
  ·rcases (by omega : k = 27 ∨ k = 28) with rfl | rfl
   ·have := h3 (by omega)
    have e : lb 28 = 258 := by decide
    have e2 : lb 27 = 227 := by decide
    have e3 : 2 ^ lx 27 = 32 := by decide
    rw [e2, e3]
    rw [e] at this
    omega
   ·have e2 : lb 28 = 258 := by decide
    have e3 : 2 ^ lx 28 = 1 := by decide
    rw [e2, e3]
    omega
theorem dst_ok {n : Int} (h : 1 ≤ n ∧ n ≤ 32768) : ∃ k, k < 30 ∧ dstC n = k ∧ dstX n = dx k ∧ dx k ≤ 32 ∧ dstV n < 2 ^ dx k ∧ (n : Int) = ((db k + dstV n : Nat) : Int) := by
 obtain ⟨m, rfl⟩ : ∃ m : Nat, n = (m : Int) := ⟨n.toNat, by omega⟩
 obtain ⟨h1, h2, h3⟩ := fndD_ok m (by omega) 29
 obtain ⟨k, hk⟩ : ∃ k, fndD m 29 = k := ⟨_, rfl⟩
 rw [hk] at h1 h2 h3
 obtain ⟨e1, e2, e3⟩ := dst_at (n := m) (by omega) hk
 refine ⟨k, by omega, e1, e2, by unfold dx; omega, ?_, by rw [e3]; omega⟩
 rw [e3]
 rcases Nat.lt_or_ge k 29 with h4 | h4
 ·have h5 := db_next h4
  have := h3 (by omega)
  omega
 ·obtain rfl : k = 29 := by omega
  have e2 : db 29 = 24577 := by decide
  have e3 : 2 ^ dx 29 = 8192 := by decide
  rw [e2, e3]
  omega
def Cov (ls ds : List Int) (t : Tok) : Prop := if t.len = 0 then Has ls t.lit.n else Has ls (lenC t.len) ∧ Has ds (dstC t.dist)
theorem agF_L {M d a : Nat} : ∀ (k : Nat) {o o2 : List F}, agL M d k o = .ok o2 → agF M d k ⟨a, o⟩ = .ok ⟨a, o2⟩ := by
 intro k
 induction k with
 | zero => intro o o2 h; injection h with h; subst h; rfl
 | succ k ih =>
  intro o o2 h
  unfold agL at h
  by_cases h1 : o.length < M
  ·rw [if_pos h1] at h
   unfold agF putF
   dsimp only
   rw [if_pos h1, bnd_ok]
   exact ih h
  ·rw [if_neg h1] at h; cases h
theorem tok_at {l : List F} {M : Nat} {ls ds : List Int} (hl : CodF ls) (hd : CodF ds) {t : Tok} {a : Nat} {o o2 : List F} (ht : tkF M t o = .ok o2) (hc : Cov ls ds t) (hA : AtB l a (tokB ls ds t)) :
  stepF l M ls ds ⟨a, o⟩ = .ok (false, ⟨a + (tokB ls ds t).length, o2⟩) ∧ 0 < (tokB ls ds t).length := by
 obtain ⟨x, n, d⟩ := t
 unfold tkF at ht
 unfold Cov at hc
 unfold tokB at hA ⊢
 dsimp only at ht hc hA ⊢
 by_cases h0 : n = 0
 ·rw [if_pos h0] at ht hc hA ⊢
  by_cases h1 : o.length < M
  ·rw [if_pos h1] at ht
   injection ht with ht
   subst ht
   have e1 := (symB_at (o := o) hl hc (by omega) hA).1
   have hx := x.lt
   rw [symB_len hl hc (by omega)]
   have hp := hc.pos hl
   refine ⟨?_, by omega⟩
   unfold stepF
   rw [e1, bnd_ok]
   dsimp only
   rw [if_neg (by omega), if_pos hx]
   unfold putF
   dsimp only
   rw [if_pos h1, bnd_ok, n_ofN]
   rfl
  ·rw [if_neg h1] at ht; cases ht
 ·rw [if_neg h0] at ht hc hA ⊢
  by_cases h1 : IsM ⟨x, n, d⟩
  ·rw [if_pos h1] at ht
   obtain ⟨m1, m2, m3, m4⟩ := h1
   dsimp only at m1 m2 m3 m4
   obtain ⟨k, hk, c1, c2, c3, c4, c5⟩ := len_ok ⟨m1, m2⟩
   obtain ⟨j, hj, q1, q2, q3, q4, q5⟩ := dst_ok ⟨m3, m4⟩
   rw [c1, q1] at hc
   rw [c1, c2, q1, q2] at hA ⊢
   obtain ⟨s1, s2⟩ := symB_at (o := o) hl hc.1 c3 hA.left
   have hR := hA.right
   rw [symB_len hl hc.1 c3] at hR
   obtain ⟨s3, s4⟩ := symB_at (o := o) hd hc.2 q3 hR
   rw [Nat.mod_eq_of_lt c4] at s2
   rw [Nat.mod_eq_of_lt q4] at s4
   by_cases h2 : o.length < d.toNat
   ·rw [if_pos h2] at ht; cases ht
   ·rw [if_neg h2] at ht
    have hp := hc.1.pos hl
    rw [List.length_append, symB_len hl hc.1 c3, symB_len hd hc.2 q3]
    refine ⟨?_, by omega⟩
    obtain ⟨r1, r2, r3⟩ := lok_at k hk
    obtain ⟨t1, t2, t3⟩ := dok_at j hj
    unfold stepF
    rw [s1, bnd_ok]
    dsimp only
    rw [if_neg (by omega), if_neg (by omega)]
    unfold matchF meantF
    rw [r1, r2, r3, if_pos rfl, s2, bnd_ok, bnd_ok]
    dsimp only
    rw [s3, bnd_ok]
    dsimp only
    unfold farF meantF
    rw [t1, t2, t3, if_pos rfl, s4, bnd_ok, bnd_ok]
    dsimp only
    have e1 : lb k + lenV n = n.toNat := by omega
    have e2 : db j + dstV d = d.toNat := by omega
    rw [e1, e2]
    unfold againF
    dsimp only
    rw [if_neg h2, agF_L _ ht, bnd_ok, Nat.add_assoc]
  ·rw [if_neg h1] at ht; cases ht
theorem toksB_cons (ls ds : List Int) (t : Tok) (r : List Tok) : toksB ls ds (t :: r) = tokB ls ds t ++ toksB ls ds r := rfl
theorem toks_at {l : List F} {M : Nat} {ls ds : List Int} (hl : CodF ls) (hd : CodF ds) (he : Has ls 256) : ∀ (T : List Tok) {a : Nat} {o o2 : List F}, exF M T o = .ok o2 → (∀ t ∈ T, Cov ls ds t) →
  AtB l a (toksB ls ds T ++ symB ls (256 : Nat) 0 0) → codedF l M ls ds ⟨a, o⟩ = .ok ⟨a + (toksB ls ds T ++ symB ls (256 : Nat) 0 0).length, o2⟩ := by
 intro T
 induction T with
 | nil =>
  intro a o o2 h hc hA
  injection h with h
  subst h
  have e : toksB ls ds [] ++ symB ls (256 : Nat) 0 0 = symB ls (256 : Nat) 0 0 := rfl
  rw [e] at hA ⊢
  have e1 := (symB_at (o := o) hl he (by omega) hA).1
  rw [symB_len hl he (by omega)]
  unfold codedF
  refine loopF_done ?_
  unfold stepF
  rw [e1, bnd_ok]
  exact if_pos rfl
 | cons t r ih =>
  intro a o o2 h hc hA
  obtain ⟨o1, h1, h2⟩ : ∃ o1, tkF M t o = .ok o1 ∧ exF M r o1 = .ok o2 := by
   unfold exF at h
   cases ht : tkF M t o with
   | error e => rw [ht] at h; cases h
   | ok o1 => rw [ht] at h; exact ⟨o1, rfl, h⟩
  rw [toksB_cons, List.append_assoc] at hA ⊢
  obtain ⟨e1, e2⟩ := tok_at hl hd h1 (hc t (by simp)) hA.left
  have hR := hA.right
  have e3 := ih h2 (fun x hx => hc x (by simp [hx])) hR
  rw [List.length_append, ← Nat.add_assoc, ← e3]
  unfold codedF
  refine loopF_more e1 ?_ ?_
  ·dsimp only; omega
  ·have := hA.left.le
   dsimp only; omega
theorem block_at {l : List F} {M : Nat} {ls ds : List Int} (hl : CodF ls) (hd : CodF ds) (he : Has ls 256) {T : List Tok} {a : Nat} {o o2 : List F} (h : exF M T o = .ok o2) (hc : ∀ t ∈ T, Cov ls ds t)
  (hA : AtB l a (toksB ls ds T ++ symB ls (256 : Nat) 0 0)) : blockF l M ls ds ⟨a, o⟩ = .ok ⟨a + (toksB ls ds T ++ symB ls (256 : Nat) 0 0).length, o2⟩ := by
 unfold blockF
 rw [hl.err, hd.err, if_neg (by simp), if_neg (by simp)]
 exact toks_at hl hd he T h hc hA
theorem fixL_cod : CodF fixL := CodF.of (by decide +kernel)
theorem fixD_cod : CodF fixD := CodF.of (by decide +kernel)
theorem fixL_has {s : Nat} (h : s < 288) : Has fixL s := by
 have : ∀ s, s < 288 → 0 < gi fixL s := by decide +kernel
 exact ⟨by show s < _; rw [show fixL.length = 288 by decide]; exact h, this s h⟩
theorem fixD_has {s : Nat} (h : s < 32) : Has fixD s := by
 have : ∀ s, s < 32 → 0 < gi fixD s := by decide +kernel
 exact ⟨by show s < _; rw [show fixD.length = 32 by decide]; exact h, this s h⟩
theorem cov_fix {t : Tok} (h : TokOk t) : Cov fixL fixD t := by
 unfold Cov
 by_cases h0 : t.len = 0
 ·rw [if_pos h0]
  exact fixL_has (by have := t.lit.lt; omega)
 ·rw [if_neg h0]
  have hm : IsM t := h.resolve_left h0
  obtain ⟨k, hk, c1, _⟩ := len_ok ⟨hm.1, hm.2.1⟩
  obtain ⟨j, hj, q1, _⟩ := dst_ok ⟨hm.2.2.1, hm.2.2.2⟩
  rw [c1, q1]
  exact ⟨fixL_has (by omega), fixD_has (by omega)⟩
theorem head_at {l : List F} {last : Bool} {kind a : Nat} {o : List F} (hk : kind < 4) (hA : AtB l a (headB last kind)) :
  numF l 1 ⟨a, o⟩ = .ok ((if last then 1 else 0), ⟨a + 1, o⟩) ∧ numF l 2 ⟨a + 1, o⟩ = .ok (kind, ⟨a + 3, o⟩) := by
 have e : headB last kind = putB (if last then 1 else 0) 1 ++ putB kind 2 := by rw [putB_one]; rfl
 rw [e] at hA
 have h1 := num_at (o := o) hA.left
 have h2 := hA.right
 rw [putB_length] at h2
 have h3 := num_at (o := o) h2
 rw [Nat.mod_eq_of_lt (by omega)] at h3
 refine ⟨?_, h3⟩
 rw [h1]
 cases last <;> rfl
theorem fixed_at {l : List F} {M : Nat} {last : Bool} {T : List Tok} {a : Nat} {o o2 : List F} (h : exF M T o = .ok o2) (hA : AtB l a (headB last 1 ++ (toksB fixL fixD T ++ symB fixL (256 : Nat) 0 0))) :
  unbF l M ⟨a, o⟩ = .ok (last, ⟨a + (headB last 1 ++ (toksB fixL fixD T ++ symB fixL (256 : Nat) 0 0)).length, o2⟩) := by
 obtain ⟨h1, h2⟩ := head_at (o := o) (by omega) hA.left
 have hR := hA.right
 have e3 : (headB last 1).length = 3 := by simp [headB, putB_length]
 rw [e3] at hR
 unfold unbF
 rw [h1, bnd_ok]
 dsimp only
 rw [h2, bnd_ok]
 dsimp only
 rw [if_neg (by omega), if_pos rfl, block_at fixL_cod fixD_cod (fixL_has (by omega)) h (fun t ht => cov_fix ((exF_len h).2 t ht)) hR, bnd_ok, show (headB last 1 ++ (toksB fixL fixD T ++ symB fixL (256 : Nat) 0 0)).length = 3 + (toksB fixL fixD T ++ symB fixL (256 : Nat) 0 0).length by rw [← e3]; exact List.length_append, Nat.add_assoc]
 cases last <;> rfl
theorem bytes_at {l b : List F} {m : Nat} (hA : AtB l (8 * m) (bitsOf b)) : m + b.length ≤ l.length ∧ ∀ i, i < b.length → gt l (m + i) = gt b i := by
 have hle := hA.le
 rw [bitsOf_length] at hle
 refine ⟨by omega, fun i hi => F.ext (Nat.eq_of_testBit_eq fun k => ?_)⟩
 rcases Nat.lt_or_ge k 8 with hk | hk
 ·have h := hA.eq (8 * i + k) (by rw [bitsOf_length]; omega)
  rw [gbit_bitsOf] at h
  unfold rb at h
  rw [show (8 * m + (8 * i + k)) / 8 = m + i by omega, show (8 * m + (8 * i + k)) % 8 = k by omega, show (8 * i + k) / 8 = i by omega, show (8 * i + k) % 8 = k by omega] at h
  exact h
 ·have hp : 256 ≤ 2 ^ k := Nat.le_trans (show 256 ≤ 2 ^ 8 by decide) (Nat.pow_le_pow_right (by omega) hk)
  rw [Nat.testBit_lt_two_pow (by have := (gt l (m + i)).lt; omega), Nat.testBit_lt_two_pow (by have := (gt b i).lt; omega)]
end Go.Proofs.YtldgdofefcehnaaGreatDoor
