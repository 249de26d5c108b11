/-
  RECORDS OF THE DIRECTORY, WITHOUT ANY PROGRAM: what is read of bytes; that the one undoes the other. No conditions.
-/
import Derived.Test.YtacllgglpjdobaaDoorCnf
namespace Go.Proofs.YtacllgglpjdobaaDoor
open Go.RowKit
set_option maxRecDepth 100000
set_option linter.unusedVariables false

/-- how many bytes it has, by its own two numbers -/
def tolC (l : List F) : Nat := 46 + atL l 28 2 + atL l 30 2
def lnW (l : List F) : Nat × Int := if l.length < 4 ∨ atL l 0 4 ≠ 33639248 then (0, 44) else if l.length < 46 then (0, 20) else if l.length < tolC l then (0, 20) else (tolC l, 0)
def gS (l : List F) : Bool := decide (atL l 24 4 = 4294967295)
def gP (l : List F) : Bool := decide (atL l 20 4 = 4294967295)
def gO (l : List F) : Bool := decide (atL l 42 4 = 4294967295)
def gD (l : List F) : Bool := decide (atL l 34 2 = 65535)
def q8 (g : Bool) : Nat := if g then 8 else 0
def q4 (g : Bool) : Nat := if g then 4 else 0
def f1 (l : List F) : Nat := 50 + atL l 28 2
def f2 (l : List F) : Nat := f1 l + q8 (gS l)
def f3 (l : List F) : Nat := f2 l + q8 (gP l)
def f4 (l : List F) : Nat := f3 l + q8 (gO l)
/-- how many bytes there should be behind the name -/
def ndG (s p o d : Bool) : Nat := if q8 s + q8 p + q8 o + q4 d = 0 then 0 else q8 s + q8 p + q8 o + q4 d + 4
def ndL (l : List F) : Nat := ndG (gS l) (gP l) (gO l) (gD l)
/-- what is read of bytes, but for the stamp -/
def rdR (l : List F) : Rc := ⟨⟨(atL l 10 2 : Nat), st0, atL l 16 4, if gP l then atL l (f2 l) 8 else atL l 20 4, if gS l then atL l (f1 l) 8 else atL l 24 4, nmOf ((l.drop 46).take (atL l 28 2))⟩, if gD l then atL l (f4 l) 4 else atL l 34 2, if gO l then atL l (f3 l) 8 else atL l 42 4⟩
def rc0 : Rc := ⟨hd0, 0, 0⟩
def mkC (c : Rc) (t : St) : Rc := ⟨mkT c.h t, c.d, c.o⟩
/-- what Parse answers -/
def prC (l : List F) : Rc × Nat × Int :=
  if (lnW l).2 ≠ 0 then (rc0, 0, (lnW l).2)
  else if cdB (rdR l) (atL l 10 2) (atL l 12 2) (atL l 14 2) ≠ l.take (lnW l).1 then (rc0, 0, 21)
  else if mthE (rdR l).h.m ≠ 0 then (rc0, 0, 43)
  else if ¬ okP (unSt (atL l 14 2) (atL l 12 2)) then (rc0, 0, 41)
  else if nokE (rdR l).h.nm ≠ 0 then (rc0, 0, nokE (rdR l).h.nm)
  else (mkC (rdR l) (unSt (atL l 14 2) (atL l 12 2)), (lnW l).1, 0)
/-- a record's bytes, its stamp told in it -/
def crX (c : Rc) : List F := cdB c c.h.m.toNat (timN c.h.t) (datN c.h.t)
def bS (c : Rc) : Bool := decide (4294967295 ≤ c.h.sz)
def bP (c : Rc) : Bool := decide (4294967295 ≤ c.h.pk)
def bO (c : Rc) : Bool := decide (4294967295 ≤ c.o)
def bD (c : Rc) : Bool := decide (65535 ≤ c.d)
theorem bh_ndG (c : Rc) : bh c = ndG (bS c) (bP c) (bO c) (bD c) := by
  have h := exP_len c
  have e : nsN (exP c) = q8 (bS c) + q8 (bP c) + q8 (bO c) + q4 (bD c) := by
    unfold exP bS bP bO bD
    rw [nsN_append, nsN_append, nsN_append]
    by_cases h1 : 4294967295 ≤ c.h.sz <;> by_cases h2 : 4294967295 ≤ c.h.pk <;> by_cases h3 : 4294967295 ≤ c.o <;> by_cases h4 : 65535 ≤ c.d <;> simp [h1, h2, h3, h4, nsN, q8, q4]
  unfold bh ndG
  rw [← h, e]
theorem ndG_le (s p o d : Bool) : ndG s p o d ≤ 32 := by cases s <;> cases p <;> cases o <;> cases d <;> decide
theorem min_full (x f : Nat) : (decide (min x f = f)) = decide (f ≤ x) := decide_eq_decide.2 (by omega)
theorem cdB_gs (c : Rc) (m t d : Nat) (X : List F) : gS (cdB c m t d ++ X) = bS c ∧ gP (cdB c m t d ++ X) = bP c ∧ gO (cdB c m t d ++ X) = bO c ∧ gD (cdB c m t d ++ X) = bD c := by
  obtain ⟨_, _, _, _, _, e5, e6, _, _, e9, e10⟩ := cdB_ats c m t d X
  unfold gS gP gO gD bS bP bO bD
  rw [e5, e6, e9, e10, min_full, min_full, min_full, min_full]
  exact ⟨rfl, rfl, rfl, rfl⟩
theorem cdB_nd (c : Rc) (m t d : Nat) (X : List F) : ndL (cdB c m t d ++ X) = bh c := by
  obtain ⟨e1, e2, e3, e4⟩ := cdB_gs c m t d X
  unfold ndL
  rw [e1, e2, e3, e4, bh_ndG]
theorem ndL_take (l : List F) (n : Nat) (hn : 46 ≤ n) : ndL (l.take n) = ndL l := by
  unfold ndL gS gP gO gD
  rw [atL_take l n 24 4 (by omega), atL_take l n 20 4 (by omega), atL_take l n 42 4 (by omega), atL_take l n 34 2 (by omega)]
/-- what is laid as it was tells behind the name just what does not fit -/
theorem cd_need {c : Rc} {m t d : Nat} {l : List F} {n : Nat} (hn : 46 ≤ n) (h : cdB c m t d = l.take n) : ndL l = atL l 30 2 := by
  have h1 := cdB_nd c m t d []
  have h2 := (cdB_ats c m t d []).2.2.2.2.2.2.2.2.1
  rw [List.append_nil, h, ndL_take l n hn] at h1
  rw [List.append_nil, h, atL_take l n 30 2 (by omega)] at h2
  rw [h1, h2]
def oB (g : Bool) (v k : Nat) : List F := if g then putL v k else []
theorem oB8 (g : Bool) (v : Nat) : (oB g v 8).length = q8 g := by unfold oB q8; cases g <;> simp [putL_length]
theorem oB4 (g : Bool) (v : Nat) : (oB g v 4).length = q4 g := by unfold oB q4; cases g <;> simp [putL_length]
theorem nsB_if (f v k : Nat) : nsB (if f ≤ v then [(v, k)] else []) = oB (decide (f ≤ v)) v k := by
  unfold oB
  by_cases h : f ≤ v
  · rw [if_pos h, decide_eq_true h, if_pos rfl]; simp [nsB]
  · rw [if_neg h, decide_eq_false h]; rfl
theorem exB_any (c : Rc) (h : bh c ≠ 0) : ∃ E : List F, E.length = 4 ∧ exB c = E ++ (oB (bS c) c.h.sz 8 ++ (oB (bP c) c.h.pk 8 ++ (oB (bO c) c.o 8 ++ oB (bD c) c.d 4))) := by
  have e : nsN (exP c) ≠ 0 := fun e => h (by rw [← exB_length c]; unfold exB; rw [if_pos e]; rfl)
  refine ⟨[ofN 1, ofN 0, ofN (nsN (exP c)), ofN 0], rfl, ?_⟩
  unfold exB
  rw [if_neg e]
  congr 1
  unfold exP
  rw [nsB_append, nsB_append, nsB_append, nsB_if, nsB_if, nsB_if, nsB_if]
  rfl
theorem oB_at (g : Bool) (v k : Nat) (X : List F) (hg : g = true) (hk : k ≤ 8) : atL (oB g v k ++ X) 0 k = v % 256 ^ k := by
  rw [hg]
  exact atL_here v k X hk
theorem atL_pastE (Y X : List F) (f s n : Nat) (h : Y.length = n) (hf : n ≤ f) : atL (Y ++ X) f s = atL X (f - n) s := by
  rw [atL_past _ _ _ _ (by omega), h]
theorem ndG_0 {s p o d : Bool} (h : ndG s p o d = 0) : s = false ∧ p = false ∧ o = false ∧ d = false := by
  revert h
  cases s <;> cases p <;> cases o <;> cases d <;> decide
/-- the numbers behind the name -/
theorem exB_ats (c : Rc) (hW : RcW c) (X : List F) : (bS c = true → atL (exB c ++ X) 4 8 = c.h.sz) ∧ (bP c = true → atL (exB c ++ X) (4 + q8 (bS c)) 8 = c.h.pk) ∧ (bO c = true → atL (exB c ++ X) (4 + q8 (bS c) + q8 (bP c)) 8 = c.o) ∧ (bD c = true → atL (exB c ++ X) (4 + q8 (bS c) + q8 (bP c) + q8 (bO c)) 4 = c.d) := by
  have hs := hW.h.sz
  have hp := hW.h.pk
  have ho := hW.o
  have hd := hW.d
  unfold two64 at hs hp ho
  by_cases h0 : bh c = 0
  · obtain ⟨h1, h2, h3, h4⟩ := ndG_0 ((bh_ndG c).symm.trans h0)
    rw [h1, h2, h3, h4]
    exact ⟨fun e => Bool.noConfusion e, fun e => Bool.noConfusion e, fun e => Bool.noConfusion e, fun e => Bool.noConfusion e⟩
  · obtain ⟨E, hE, hx⟩ := exB_any c h0
    rw [hx]
    simp only [List.append_assoc]
    refine ⟨fun e => ?_, fun e => ?_, fun e => ?_, fun e => ?_⟩
    · rw [atL_pastE _ _ _ _ 4 hE (by omega)]
      exact (oB_at _ _ _ _ e (by omega)).trans (Nat.mod_eq_of_lt hs)
    · rw [atL_pastE _ _ _ _ 4 hE (by omega), atL_pastE _ _ _ _ _ (oB8 _ _) (by omega)]
      rw [show 4 + q8 (bS c) - 4 - q8 (bS c) = 0 by omega]
      exact (oB_at _ _ _ _ e (by omega)).trans (Nat.mod_eq_of_lt hp)
    · rw [atL_pastE _ _ _ _ 4 hE (by omega), atL_pastE _ _ _ _ _ (oB8 _ _) (by omega), atL_pastE _ _ _ _ _ (oB8 _ _) (by omega)]
      rw [show 4 + q8 (bS c) + q8 (bP c) - 4 - q8 (bS c) - q8 (bP c) = 0 by omega]
      exact (oB_at _ _ _ _ e (by omega)).trans (Nat.mod_eq_of_lt ho)
    · rw [atL_pastE _ _ _ _ 4 hE (by omega), atL_pastE _ _ _ _ _ (oB8 _ _) (by omega), atL_pastE _ _ _ _ _ (oB8 _ _) (by omega), atL_pastE _ _ _ _ _ (oB8 _ _) (by omega)]
      rw [show 4 + q8 (bS c) + q8 (bP c) + q8 (bO c) - 4 - q8 (bS c) - q8 (bP c) - q8 (bO c) = 0 by omega]
      exact (oB_at _ _ _ _ e (by omega)).trans (Nat.mod_eq_of_lt hd)
theorem cdB_behind (c : Rc) (m t d : Nat) (X : List F) (f s : Nat) : atL (cdB c m t d ++ X) (46 + c.h.nm.length + f) s = atL (exB c ++ X) f s := by
  have e := atL_drop (cdB c m t d ++ X) 46 (c.h.nm.length + f) s
  rw [cdB_drop, atL_pastE _ _ _ _ c.h.nm.length (nmF_length _) (by omega), show c.h.nm.length + f - c.h.nm.length = f by omega] at e
  rw [show 46 + c.h.nm.length + f = 46 + (c.h.nm.length + f) by omega]
  exact e.symm
theorem cdB_tol (c : Rc) (m t d : Nat) (X : List F) (hn : c.h.nm.length < 65536) : tolC (cdB c m t d ++ X) = (cdB c m t d).length := by
  obtain ⟨_, _, _, _, _, _, _, e8, e9, _, _⟩ := cdB_ats c m t d X
  unfold tolC
  rw [e8, e9, cdB_length]
  omega
theorem lnW_ok {l : List F} {k : Nat} (h4 : atL l 0 4 = 33639248) (hk : tolC l = k) (h46 : 46 ≤ k) (hl : k ≤ l.length) : lnW l = (k, 0) := by
  unfold lnW
  rw [if_neg (by omega), if_neg (by omega), if_neg (by omega), hk]
theorem lnW_cdB (c : Rc) (m t d : Nat) (X : List F) (hn : c.h.nm.length < 65536) : lnW (cdB c m t d ++ X) = ((cdB c m t d).length, 0) :=
  lnW_ok (cdB_ats c m t d X).1 (cdB_tol c m t d X hn) (by rw [cdB_length]; omega) (by rw [List.length_append]; omega)
theorem if_full {g : Bool} {x f v w : Nat} (hg : g = decide (f ≤ x)) (hv : g = true → v = x) (hw : w = min x f) : (if g = true then v else w) = x := by
  cases h : g
  · rw [if_neg (by decide), hw]
    rw [h] at hg
    have := of_decide_eq_false hg.symm
    omega
  · rw [if_pos rfl]
    exact hv h
theorem rdR_cdB (c : Rc) (m t d : Nat) (X : List F) (hW : RcW c) (hm : c.h.m = (m : Int)) (hm2 : m < 65536) (hn : c.h.nm.length < 65536) : rdR (cdB c m t d ++ X) = mkC c st0 := by
  obtain ⟨_, e1, _, _, e4, e5, e6, e8, _, e9, e10⟩ := cdB_ats c m t d X
  obtain ⟨g1, g2, g3, g4⟩ := cdB_gs c m t d X
  obtain ⟨x1, x2, x3, x4⟩ := exB_ats c hW X
  have hsum := hW.h.sum
  have k1 : f1 (cdB c m t d ++ X) = 46 + c.h.nm.length + 4 := by unfold f1; rw [e8]; omega
  have k2 : f2 (cdB c m t d ++ X) = 46 + c.h.nm.length + (4 + q8 (bS c)) := by unfold f2; rw [k1, g1]; omega
  have k3 : f3 (cdB c m t d ++ X) = 46 + c.h.nm.length + (4 + q8 (bS c) + q8 (bP c)) := by unfold f3; rw [k2, g2]; omega
  have k4 : f4 (cdB c m t d ++ X) = 46 + c.h.nm.length + (4 + q8 (bS c) + q8 (bP c) + q8 (bO c)) := by unfold f4; rw [k3, g3]; omega
  unfold rdR mkC mkT
  rw [e1, e4, e5, e6, e8, e9, e10, g1, g2, g3, g4, k1, k2, k3, k4, cdB_behind, cdB_behind, cdB_behind, cdB_behind, cdB_drop, Nat.mod_eq_of_lt hn, Nat.mod_eq_of_lt hsum, Nat.mod_eq_of_lt hm2, nmOf_take, hm]
  rw [if_full (g := bP c) (f := 4294967295) (x := c.h.pk) rfl x2 rfl, if_full (g := bS c) (f := 4294967295) (x := c.h.sz) rfl x1 rfl, if_full (g := bD c) (f := 65535) (x := c.d) rfl x4 rfl, if_full (g := bO c) (f := 4294967295) (x := c.o) rfl x3 rfl]
theorem cdB_mkC (c : Rc) (s : St) (m t d : Nat) : cdB (mkC c s) m t d = cdB c m t d := rfl
theorem crX_of {c : Rc} {m : Nat} (hm : c.h.m = (m : Int)) : crX c = cdB c m (timN c.h.t) (datN c.h.t) := by unfold crX; rw [hm]; rfl
/-- WHAT IS WRITTEN IS PARSED AS IT, whatever stands behind -/
theorem prC_crX (c : Rc) (X : List F) (hW : RcW c) (hc : chkH c.h = 0) : prC (crX c ++ X) = (c, (crX c).length, 0) := by
  obtain ⟨hm, hok, hnm⟩ := chkH_ok hc
  have hn : c.h.nm.length < 65536 := by have := nok_le hnm; omega
  have hd := datN_lt hok.six
  have ht := timN_lt hok.six
  obtain ⟨_, e1, e2, e3, _⟩ := cdB_ats c c.h.m.toNat (timN c.h.t) (datN c.h.t) X
  have hmm : c.h.m = (c.h.m.toNat : Int) := by omega
  have hm2 : c.h.m.toNat < 65536 := by omega
  unfold crX prC
  rw [lnW_cdB c _ _ _ X hn, rdR_cdB c _ _ _ X hW hmm hm2 hn, e1, e2, e3, Nat.mod_eq_of_lt hd, Nat.mod_eq_of_lt ht, Nat.mod_eq_of_lt hm2, un_pack hok.six]
  dsimp only
  have t1 : (cdB c c.h.m.toNat (timN c.h.t) (datN c.h.t) ++ X).take (cdB c c.h.m.toNat (timN c.h.t) (datN c.h.t)).length = cdB c c.h.m.toNat (timN c.h.t) (datN c.h.t) := List.take_left
  have m1 : mthE c.h.m = 0 := if_pos hm
  rw [if_neg (by decide), t1, if_neg (fun e => e (cdB_mkC c _ _ _ _)), if_neg (fun e => e m1), if_neg (fun e => e hok), if_neg (fun e => e hnm)]
  rfl
theorem rdR_wf (l : List F) (s : St) (hs : StW s) : RcW (mkC (rdR l) s) := by
  have a1 := atL_lt4 l 20
  have a2 := atL_lt4 l 24
  have a3 := atL_lt4 l 42
  have a4 := atL_lt2 l 34
  refine ⟨⟨wfI _ (by have := atL_lt2 l 10; omega), hs, atL_lt4 l 16, ?_, ?_⟩, ?_, ?_⟩
  · show (if _ then _ else _) < two64
    split
    · exact atL_lt8 _ _
    · unfold two64; omega
  · show (if _ then _ else _) < two64
    split
    · exact atL_lt8 _ _
    · unfold two64; omega
  · show (if _ then _ else _) < 4294967296
    split
    · exact atL_lt4 _ _
    · omega
  · show (if _ then _ else _) < two64
    split
    · exact atL_lt8 _ _
    · unfold two64; omega
theorem lnW_le {l : List F} (h : (lnW l).2 = 0) : (lnW l).1 ≤ l.length ∧ 46 ≤ (lnW l).1 ∧ (lnW l).1 = tolC l ∧ atL l 0 4 = 33639248 := by
  unfold lnW at h ⊢
  split at h
  · exact absurd h (by decide)
  · split at h
    · exact absurd h (by decide)
    · split at h
      · exact absurd h (by decide)
      · rename_i h1 h2 h3
        rw [if_neg h1, if_neg h2, if_neg h3]
        refine ⟨by omega, ?_, rfl, ?_⟩
        · show 46 ≤ tolC l
          unfold tolC; omega
        · by_cases e : atL l 0 4 = 33639248
          · exact e
          · exact absurd (.inr e) h1
/-- WHAT IS PARSED, AND WRITTEN, IS THESE BYTES AGAIN -/
theorem prC_back (l : List F) : ((prC l).2.2 = 0 ∧ RcW (prC l).1 ∧ chkH (prC l).1.h = 0 ∧ (prC l).2.1 ≤ l.length ∧ crX (prC l).1 = l.take (prC l).2.1) ∨ ((prC l).2.2 ≠ 0 ∧ (prC l).1 = rc0 ∧ (prC l).2.1 = 0) := by
  unfold prC
  split
  · rename_i h1
    exact .inr ⟨h1, rfl, rfl⟩
  rename_i h1
  split
  · exact .inr ⟨by decide, rfl, rfl⟩
  rename_i h2
  split
  · exact .inr ⟨by decide, rfl, rfl⟩
  rename_i h3
  split
  · exact .inr ⟨by decide, rfl, rfl⟩
  rename_i h4
  split
  · rename_i h5
    exact .inr ⟨h5, rfl, rfl⟩
  rename_i h5
  have h1' : (lnW l).2 = 0 := by omega
  have h2' : cdB (rdR l) (atL l 10 2) (atL l 12 2) (atL l 14 2) = l.take (lnW l).1 := Decidable.of_not_not h2
  have h4' : okP (unSt (atL l 14 2) (atL l 12 2)) := Decidable.of_not_not h4
  have h5' : nokE (rdR l).h.nm = 0 := by omega
  have h3' : (rdR l).h.m = 0 ∨ (rdR l).h.m = 8 := by
    by_cases e : (rdR l).h.m = 0 ∨ (rdR l).h.m = 8
    · exact e
    · have : mthE (rdR l).h.m = 43 := if_neg e
      omega
  refine .inl ⟨rfl, rdR_wf l _ (unSt_wf _ _ (atL_lt2 l 14) (atL_lt2 l 12)), chkH_of h3' h4' h5', (lnW_le h1').1, ?_⟩
  show cdB (mkC (rdR l) _) (atL l 10 2) (timN (unSt (atL l 14 2) (atL l 12 2))) (datN (unSt (atL l 14 2) (atL l 12 2))) = _
  rw [(pack_un (d := atL l 14 2) (m := atL l 12 2)).1, (pack_un (d := atL l 14 2) (m := atL l 12 2)).2, cdB_mkC]
  exact h2'
/-- fewer bytes are no record -/
theorem prC_cut (c : Rc) (hW : RcW c) (hc : chkH c.h = 0) (k : Nat) (hk : k < (crX c).length) : (prC ((crX c).take k)).2.2 = if k < 4 then 44 else 20 := by
  obtain ⟨hm, hok, hnm⟩ := chkH_ok hc
  have hn : c.h.nm.length < 65536 := by have := nok_le hnm; omega
  have hl : ((crX c).take k).length = k := by rw [List.length_take]; omega
  have e0 := cdB_ats c c.h.m.toNat (timN c.h.t) (datN c.h.t) []
  rw [List.append_nil] at e0
  have hv : (lnW ((crX c).take k)).2 = if k < 4 then 44 else 20 := by
    unfold lnW
    rw [hl]
    by_cases h4 : k < 4
    · rw [if_pos (.inl h4), if_pos h4]
    · rw [if_neg h4]
      have e1 : atL ((crX c).take k) 0 4 = 33639248 := by rw [atL_take _ _ _ _ (by omega)]; exact e0.1
      rw [if_neg (by omega)]
      by_cases h46 : k < 46
      · rw [if_pos h46]
      · rw [if_neg h46]
        have e2 : tolC ((crX c).take k) = (crX c).length := by
          have := cdB_tol c c.h.m.toNat (timN c.h.t) (datN c.h.t) [] hn
          rw [List.append_nil] at this
          unfold tolC at this ⊢
          rw [atL_take _ _ _ _ (by omega), atL_take _ _ _ _ (by omega)]
          exact this
        rw [e2, if_pos hk]
  unfold prC
  rw [if_pos (by rw [hv]; split <;> decide)]
  exact hv
/-- of two unlike records the bytes are unlike -/
theorem crX_inj {a b : Rc} (ha : RcW a) (hb : RcW b) (ca : chkH a.h = 0) (cb : chkH b.h = 0) (h : crX a = crX b) : a = b := by
  have h1 := prC_crX a [] ha ca
  have h2 := prC_crX b [] hb cb
  rw [h, h2] at h1
  exact (congrArg Prod.fst h1).symm
end Go.Proofs.YtacllgglpjdobaaDoor
