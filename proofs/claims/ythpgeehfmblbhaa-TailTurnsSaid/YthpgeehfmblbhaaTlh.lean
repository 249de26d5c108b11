/-
  TAILS, WITHOUT ANY PROGRAM: what is read of three records; that the one undoes the other. No conditions.
-/
import Derived.Test.YthpgeehfmblbhaaTle
namespace Go.Proofs.Ythpgeehfmblbhaa
open Go.RowKit
set_option maxRecDepth 100000
set_option linter.unusedVariables false

def tlB1 (t : Tl) : List F := nsB (tlP1 t)
def tlB2 (t : Tl) : List F := nsB (tlP2 t)
def tlB3 (t : Tl) : List F := nsB (tlP3 t)
theorem tlB1_length (t : Tl) : (tlB1 t).length = 56 := by unfold tlB1; rw [nsB_length]; rfl
theorem tlB2_length (t : Tl) : (tlB2 t).length = 20 := by unfold tlB2; rw [nsB_length]; rfl
theorem tlB3_length (t : Tl) : (tlB3 t).length = 22 := by unfold tlB3; rw [nsB_length]; rfl
/-- the error of a record: by what it begins with, and how many bytes it has -/
def pE (b : List F) (sg sz : Nat) : Int := if b.length < 4 ∨ atL b 0 4 ≠ sg then 44 else if b.length < sz then 20 else if sz < b.length then 22 else 0
def tl0 : Tl := ⟨0, 0, 0, 0, 0, 0, 0, 0, 0⟩
/-- what the great end and the locator tell -/
def rdT (a b : List F) : Tl := ⟨atL a 16 4, atL a 20 4, atL a 24 8, atL a 32 8, atL a 40 8, atL a 48 8, atL b 4 4, atL b 16 4, atL b 8 8⟩
def prT (a b c : List F) : Tl × Int :=
  if pE a 101075792 56 ≠ 0 then (tl0, pE a 101075792 56)
  else if pE b 117853008 20 ≠ 0 then (tl0, pE b 117853008 20)
  else if pE c 101010256 22 ≠ 0 then (tl0, pE c 101010256 22)
  else if tlB1 (rdT a b) ≠ a ∨ tlB3 (rdT a b) ≠ c then (tl0, 21)
  else (rdT a b, 0)
/-- the one's numbers, the other's locator -/
def mixT (t u : Tl) : Tl := ⟨t.di, t.st, t.he, t.co, t.sz, t.o, u.d6, u.ds, u.o6⟩
theorem mixT_self (t : Tl) : mixT t t = t := rfl
theorem tlB1_ats (t : Tl) : atL (tlB1 t) 0 4 = 101075792 ∧ atL (tlB1 t) 16 4 = t.di % 4294967296 ∧ atL (tlB1 t) 20 4 = t.st % 4294967296 ∧ atL (tlB1 t) 24 8 = t.he % 18446744073709551616 ∧ atL (tlB1 t) 32 8 = t.co % 18446744073709551616 ∧ atL (tlB1 t) 40 8 = t.sz % 18446744073709551616 ∧ atL (tlB1 t) 48 8 = t.o % 18446744073709551616 := by
  have e : tlB1 t = putL 101075792 4 ++ (putL 44 8 ++ (putL 45 2 ++ (putL 45 2 ++ (putL t.di 4 ++ (putL t.st 4 ++ (putL t.he 8 ++ (putL t.co 8 ++ (putL t.sz 8 ++ (putL t.o 8 ++ []))))))))) := rfl
  rw [e]
  refine ⟨?_, ?_, ?_, ?_, ?_, ?_, ?_⟩ <;> simp [atL_skip, atL_here, -List.append_nil]
theorem tlB2_ats (t : Tl) : atL (tlB2 t) 0 4 = 117853008 ∧ atL (tlB2 t) 4 4 = t.d6 % 4294967296 ∧ atL (tlB2 t) 8 8 = t.o6 % 18446744073709551616 ∧ atL (tlB2 t) 16 4 = t.ds % 4294967296 := by
  have e : tlB2 t = putL 117853008 4 ++ (putL t.d6 4 ++ (putL t.o6 8 ++ (putL t.ds 4 ++ []))) := rfl
  rw [e]
  refine ⟨?_, ?_, ?_, ?_⟩ <;> simp [atL_skip, atL_here, -List.append_nil]
theorem tlB3_ats (t : Tl) : atL (tlB3 t) 0 4 = 101010256 ∧ atL (tlB3 t) 4 2 = min t.di 65535 ∧ atL (tlB3 t) 6 2 = min t.st 65535 ∧ atL (tlB3 t) 8 2 = min t.he 65535 ∧ atL (tlB3 t) 10 2 = min t.co 65535 ∧ atL (tlB3 t) 12 4 = min t.sz 4294967295 ∧ atL (tlB3 t) 16 4 = min t.o 4294967295 ∧ atL (tlB3 t) 20 2 = 0 := by
  have e : tlB3 t = putL 101010256 4 ++ (putL (min t.di 65535) 2 ++ (putL (min t.st 65535) 2 ++ (putL (min t.he 65535) 2 ++ (putL (min t.co 65535) 2 ++ (putL (min t.sz 4294967295) 4 ++ (putL (min t.o 4294967295) 4 ++ (putL 0 2 ++ []))))))) := rfl
  rw [e]
  refine ⟨?_, ?_, ?_, ?_, ?_, ?_, ?_, ?_⟩ <;> simp [atL_skip, atL_here, -List.append_nil] <;> omega
theorem pE_ok {b : List F} {sg sz : Nat} (h4 : 4 ≤ sz) (hl : b.length = sz) (hs : atL b 0 4 = sg) : pE b sg sz = 0 := by
  unfold pE
  rw [if_neg (by omega), if_neg (by omega), if_neg (by omega)]
theorem pE_of {b : List F} {sg sz : Nat} (h : pE b sg sz = 0) : b.length = sz ∧ atL b 0 4 = sg := by
  unfold pE at h
  split at h
  · omega
  · split at h
    · omega
    · split at h
      · omega
      · exact ⟨by omega, by omega⟩
theorem pE_B1 (t : Tl) : pE (tlB1 t) 101075792 56 = 0 := pE_ok (by omega) (tlB1_length t) (tlB1_ats t).1
theorem pE_B2 (t : Tl) : pE (tlB2 t) 117853008 20 = 0 := pE_ok (by omega) (tlB2_length t) (tlB2_ats t).1
theorem pE_B3 (t : Tl) : pE (tlB3 t) 101010256 22 = 0 := pE_ok (by omega) (tlB3_length t) (tlB3_ats t).1
theorem rdT_B {t u : Tl} (ht : TlW t) (hu : TlW u) : rdT (tlB1 t) (tlB2 u) = mixT t u := by
  obtain ⟨_, a1, a2, a3, a4, a5, a6⟩ := tlB1_ats t
  obtain ⟨_, b1, b2, b3⟩ := tlB2_ats u
  have h1 := ht.di
  have h2 := ht.st
  have h3 := ht.he
  have h4 := ht.co
  have h5 := ht.sz
  have h6 := ht.o
  have h7 := hu.d6
  have h8 := hu.ds
  have h9 := hu.o6
  unfold two64 at h3 h4 h5 h6 h9
  unfold rdT mixT
  rw [a1, a2, a3, a4, a5, a6, b1, b2, b3, Nat.mod_eq_of_lt h1, Nat.mod_eq_of_lt h2, Nat.mod_eq_of_lt h3, Nat.mod_eq_of_lt h4, Nat.mod_eq_of_lt h5, Nat.mod_eq_of_lt h6, Nat.mod_eq_of_lt h7, Nat.mod_eq_of_lt h8, Nat.mod_eq_of_lt h9]
/-- WHAT IS WRITTEN IS PARSED AS IT -/
theorem prT_mix {t u : Tl} (ht : TlW t) (hu : TlW u) : prT (tlB1 t) (tlB2 u) (tlB3 t) = (mixT t u, 0) := by
  unfold prT
  rw [rdT_B ht hu, pE_B1, pE_B2, pE_B3]
  rw [if_neg (by decide), if_neg (by decide), if_neg (by decide), if_neg (by
    rintro (h | h)
    · exact h rfl
    · exact h rfl)]
theorem prT_same {t : Tl} (ht : TlW t) : prT (tlB1 t) (tlB2 t) (tlB3 t) = (t, 0) := prT_mix ht ht
theorem rdT_wf (a b : List F) : TlW (rdT a b) := ⟨atL_lt4 _ _, atL_lt4 _ _, atL_lt8 _ _, atL_lt8 _ _, atL_lt8 _ _, atL_lt8 _ _, atL_lt4 _ _, atL_lt4 _ _, atL_lt8 _ _⟩
theorem atL_put (l : List F) (f s : Nat) (hs : s ≤ 8) (h : f + s ≤ l.length) : putL (atL l f s) s = (l.drop f).take s := by
  rw [atL_eq l f s hs]
  have hl : ((l.drop f).take s).length = s := by rw [List.length_take, List.length_drop]; omega
  have := putL_getL ((l.drop f).take s)
  rw [hl] at this
  exact this
/-- a locator's bytes are what it tells -/
theorem tlB2_rdT {a b : List F} (hl : b.length = 20) (hs : atL b 0 4 = 117853008) : tlB2 (rdT a b) = b := by
  have e0 : putL 117853008 4 = (b.drop 0).take 4 := by rw [← hs]; exact atL_put b 0 4 (by omega) (by omega)
  have e1 := atL_put b 4 4 (by omega) (by omega)
  have e2 := atL_put b 8 8 (by omega) (by omega)
  have e3 := atL_put b 16 4 (by omega) (by omega)
  show putL 117853008 4 ++ (putL (atL b 4 4) 4 ++ (putL (atL b 8 8) 8 ++ (putL (atL b 16 4) 4 ++ []))) = b
  rw [e0, e1, e2, e3, List.append_nil]
  have c3 : (b.drop 16).take 4 = b.drop 16 := List.take_of_length_le (by rw [List.length_drop]; omega)
  have c2 : (b.drop 8).take 8 ++ b.drop 16 = b.drop 8 := by
    have := List.take_append_drop 8 (b.drop 8)
    rwa [List.drop_drop] at this
  have c1 : (b.drop 4).take 4 ++ b.drop 8 = b.drop 4 := by
    have := List.take_append_drop 4 (b.drop 4)
    rwa [List.drop_drop] at this
  have c0 : (b.drop 0).take 4 ++ b.drop 4 = b := List.take_append_drop 4 b
  rw [c3, c2, c1, c0]
/-- WHAT IS PARSED, AND WRITTEN, IS THESE BYTES AGAIN -/
theorem prT_back (a b c : List F) : ((prT a b c).2 = 0 ∧ TlW (prT a b c).1 ∧ tlB1 (prT a b c).1 = a ∧ tlB2 (prT a b c).1 = b ∧ tlB3 (prT a b c).1 = c) ∨ ((prT a b c).2 ≠ 0 ∧ (prT a b c).1 = tl0) := by
  unfold prT
  split
  · rename_i h1
    exact .inr ⟨h1, rfl⟩
  rename_i h1
  split
  · rename_i h2
    exact .inr ⟨h2, rfl⟩
  rename_i h2
  split
  · rename_i h3
    exact .inr ⟨h3, rfl⟩
  rename_i h3
  split
  · exact .inr ⟨by decide, rfl⟩
  rename_i h4
  have h2' : pE b 117853008 20 = 0 := by omega
  obtain ⟨hl, hs⟩ := pE_of h2'
  refine .inl ⟨rfl, rdT_wf a b, ?_, tlB2_rdT hl hs, ?_⟩
  · by_cases e : tlB1 (rdT a b) = a
    · exact e
    · exact absurd (.inl e) h4
  · by_cases e : tlB3 (rdT a b) = c
    · exact e
    · exact absurd (.inr e) h4
theorem prT_not {a b c : List F} {t : Tl} (ht : TlW t) (h : ¬ (tlB1 t = a ∧ tlB2 t = b ∧ tlB3 t = c)) : ((prT a b c).2 ≠ 0 ∧ (prT a b c).1 = tl0) ∨ ((prT a b c).2 = 0 ∧ (prT a b c).1 ≠ t) := by
  rcases prT_back a b c with ⟨h1, _, h2, h3, h4⟩ | h1
  · exact .inr ⟨h1, fun e => h (by rw [e] at h2 h3 h4; exact ⟨h2, h3, h4⟩)⟩
  · exact .inl h1
theorem tl_iff {t u : Tl} (ht : TlW t) (hu : TlW u) : t = u ↔ (tlB1 t = tlB1 u ∧ tlB2 t = tlB2 u) := by
  constructor
  · rintro rfl
    exact ⟨rfl, rfl⟩
  · rintro ⟨h1, h2⟩
    have e1 := rdT_B ht ht
    rw [h1, h2, rdT_B hu hu] at e1
    exact e1.symm
theorem ne_set_xor {l : List F} {k : Nat} (hk : k < l.length) {x : F} (hx : x ≠ 0) : l ≠ l.set k (gt l k + x) := by
  intro e
  have h := gt_set l k k (gt l k + x) hk
  rw [← e, if_pos rfl] at h
  apply hx
  have h2 : gt l k + 0 = gt l k + x := by rw [add_zero]; exact h
  exact (add_left_inj h2).symm
/-- the law's own example -/
def tlX : Tl := ⟨1, 2, 3, 70000, 5, 6, 7, 8, 9⟩
theorem tlX_W : TlW tlX := ⟨by decide, by decide, by decide, by decide, by decide, by decide, by decide, by decide, by decide⟩
theorem tl0_W : TlW tl0 := ⟨by decide, by decide, by decide, by decide, by decide, by decide, by decide, by decide, by decide⟩
theorem prX_end : prT (tlB1 tlX) (tlB2 tlX) (tlB3 tl0) = (tl0, 21) := by
  have hne : tlB3 (mixT tlX tlX) ≠ tlB3 tl0 := fun e => by
    have h1 := (tlB3_ats tlX).2.1
    have e2 : tlB3 tlX = tlB3 tl0 := e
    rw [e2, (tlB3_ats tl0).2.1] at h1
    exact absurd h1 (by decide)
  unfold prT
  rw [rdT_B tlX_W tlX_W, pE_B1, pE_B2, pE_B3, if_neg (by decide), if_neg (by decide), if_neg (by decide), if_pos (.inr hne)]
theorem prX_none : prT (tlB1 tlX) [] (tlB3 tlX) = (tl0, 44) := by
  have e : pE [] 117853008 20 = 44 := if_pos (.inl (by decide))
  unfold prT
  rw [pE_B1, e, if_neg (by decide), if_pos (by decide)]
theorem prX_cut : prT (tlB1 tlX) ((tlB2 tlX).take 19) (tlB3 tlX) = (tl0, 20) := by
  have hl : ((tlB2 tlX).take 19).length = 19 := by rw [List.length_take, tlB2_length]; rfl
  have e : pE ((tlB2 tlX).take 19) 117853008 20 = 20 := by
    unfold pE
    rw [hl, atL_take _ _ _ _ (by omega), (tlB2_ats tlX).1]
    rfl
  unfold prT
  rw [pE_B1, e, if_neg (by decide), if_pos (by decide)]
theorem tlX_c10 : gt (tlB3 tlX) 10 = ofN 255 := by decide
theorem tl0_head : (tlB3 tl0).take 4 = [ofN 80, ofN 75, ofN 5, ofN 6] := by decide
/-- two bytes, four bytes, as numbers -/
theorem atL_two (l : List F) (f : Nat) (h : f + 2 ≤ l.length) : atL l f 2 = (gt l f).n + 256 * (gt l (f + 1)).n := by
  have e : (l.drop f).take 2 = [gt l f, gt l (f + 1)] := by
    apply ext_gt (by simp; omega)
    intro i hi
    rw [gt_take, gt_drop]
    have : i < 2 := by simp at hi; omega
    rcases (show i = 0 ∨ i = 1 by omega) with rfl | rfl <;> simp [gt]
  rw [atL_eq l f 2 (by omega), e]
  simp [getL]
theorem atL_four (l : List F) (f : Nat) (h : f + 4 ≤ l.length) : atL l f 4 = atL l f 2 + 65536 * atL l (f + 2) 2 := by
  have e : (l.drop f).take 4 = (l.drop f).take 2 ++ (l.drop (f + 2)).take 2 := by
    have := List.take_append_drop 2 ((l.drop f).take 4)
    rw [List.take_take, List.drop_take, List.drop_drop] at this
    exact this.symm
  rw [atL_eq l f 4 (by omega), e, getL_append, atL_eq l f 2 (by omega), atL_eq l (f + 2) 2 (by omega)]
  have hl : ((l.drop f).take 2).length = 2 := by rw [List.length_take, List.length_drop]; omega
  rw [hl]
end Go.Proofs.Ythpgeehfmblbhaa
