/-
  STAMPS, WITHOUT ANY PROGRAM: which are right, their numbers, which of two is ahead. No conditions.
-/
import Derived.Test.YtacllgglpjdobaaDoorBase
namespace Go.Proofs.YtacllgglpjdobaaDoor
open Go.RowKit
set_option maxRecDepth 100000
set_option linter.unusedVariables false

/-- a stamp -/
structure St where
  y : Int
  mo : Int
  d : Int
  h : Int
  mi : Int
  s : Int
theorem St.ext' {a b : St} (h1 : a.y = b.y) (h2 : a.mo = b.mo) (h3 : a.d = b.d) (h4 : a.h = b.h) (h5 : a.mi = b.mi) (h6 : a.s = b.s) : a = b := by
  cases a; cases b; simp_all
def stV (t : St) : Value := .agg #[.int .i64 t.y, .int .i64 t.mo, .int .i64 t.d, .int .i64 t.h, .int .i64 t.mi, .int .i64 t.s]
def st0 : St := ⟨0, 0, 0, 0, 0, 0⟩
/-- all its numbers are ints -/
structure StW (t : St) : Prop where
  y : (Lit.int .i64 t.y).wf = true
  mo : (Lit.int .i64 t.mo).wf = true
  d : (Lit.int .i64 t.d).wf = true
  h : (Lit.int .i64 t.h).wf = true
  mi : (Lit.int .i64 t.mi).wf = true
  s : (Lit.int .i64 t.s).wf = true
def longP (y : Int) : Prop := (y % 4 = 0 ∧ y % 100 ≠ 0) ∨ y % 400 = 0
instance (y : Int) : Decidable (longP y) := by unfold longP; infer_instance
def longB (y : Int) : Bool := decide (longP y)
def mdT : List Nat := [31, 28, 31, 30, 31, 30, 31, 31, 30, 31, 30, 31]
def md (k : Nat) : Nat := mdT.getD k 0
/-- how many days a month has -/
def dysN (y m : Int) : Nat := if 1 ≤ m ∧ m ≤ 12 then (if m = 2 ∧ longP y then 29 else md (m - 1).toNat) else 0
theorem dysN_in {y m : Int} (h : 1 ≤ (dysN y m : Int)) : 1 ≤ m ∧ m ≤ 12 := by
  unfold dysN at h
  split at h
  · assumption
  · omega
theorem md_le (k : Nat) : md k ≤ 31 := by
  rcases Nat.lt_or_ge k 12 with h | h
  · have : ∀ k, k < 12 → md k ≤ 31 := by decide +kernel
    exact this k h
  · have e : md k = 0 := by unfold md; rw [List.getD_eq_getElem?_getD, List.getElem?_eq_none h]; rfl
    omega
theorem dysN_le (y m : Int) : dysN y m ≤ 31 := by
  unfold dysN
  split
  · split
    · omega
    · exact md_le _
  · omega
/-- a right stamp -/
def okP (t : St) : Prop := 1980 ≤ t.y ∧ t.y ≤ 2107 ∧ 1 ≤ t.d ∧ t.d ≤ (dysN t.y t.mo : Int) ∧ 0 ≤ t.h ∧ t.h ≤ 23 ∧ 0 ≤ t.mi ∧ t.mi ≤ 59 ∧ 0 ≤ t.s ∧ t.s ≤ 58 ∧ t.s % 2 = 0
instance (t : St) : Decidable (okP t) := by unfold okP; infer_instance
def okSt (t : St) : Bool := decide (okP t)
structure Ok6 (t : St) : Prop where
  y : 1980 ≤ t.y ∧ t.y ≤ 2107
  mo : 1 ≤ t.mo ∧ t.mo ≤ 12
  d : 1 ≤ t.d ∧ t.d ≤ 31
  h : 0 ≤ t.h ∧ t.h ≤ 23
  mi : 0 ≤ t.mi ∧ t.mi ≤ 59
  s : 0 ≤ t.s ∧ t.s ≤ 58 ∧ t.s % 2 = 0
theorem okP.six {t : St} (h : okP t) : Ok6 t := by
  obtain ⟨h1, h2, h3, h4, h5, h6, h7, h8, h9, h10, h11⟩ := h
  have hm := dysN_in (y := t.y) (m := t.mo) (by omega)
  have hd := dysN_le t.y t.mo
  exact ⟨⟨h1, h2⟩, hm, ⟨h3, by omega⟩, ⟨h5, h6⟩, ⟨h7, h8⟩, ⟨h9, h10, h11⟩⟩
/-- its numbers -/
def datN (t : St) : Nat := ((t.y - 1980) * 512 + t.mo * 32 + t.d).toNat
def timN (t : St) : Nat := (t.h * 2048 + t.mi * 32 + t.s / 2).toNat
theorem datN_eq {t : St} (h : Ok6 t) : (datN t : Int) = (t.y - 1980) * 512 + t.mo * 32 + t.d := by
  obtain ⟨⟨h1, h2⟩, ⟨h3, h4⟩, ⟨h5, h6⟩, _, _, _⟩ := h
  unfold datN
  omega
theorem timN_eq {t : St} (h : Ok6 t) : (timN t : Int) = t.h * 2048 + t.mi * 32 + t.s / 2 := by
  obtain ⟨_, _, _, ⟨h1, h2⟩, ⟨h3, h4⟩, ⟨h5, h6, h7⟩⟩ := h
  unfold timN
  omega
theorem datN_lt {t : St} (h : Ok6 t) : datN t < 65536 := by
  have e := datN_eq h
  obtain ⟨⟨h1, h2⟩, ⟨h3, h4⟩, ⟨h5, h6⟩, _, _, _⟩ := h
  omega
theorem timN_lt {t : St} (h : Ok6 t) : timN t < 65536 := by
  have e := timN_eq h
  obtain ⟨_, _, _, ⟨h1, h2⟩, ⟨h3, h4⟩, ⟨h5, h6, h7⟩⟩ := h
  omega
/-- numbers' stamp -/
def unSt (d m : Nat) : St := ⟨1980 + ((d / 512 : Nat) : Int), ((d / 32 % 16 : Nat) : Int), ((d % 32 : Nat) : Int), ((m / 2048 : Nat) : Int), ((m / 32 % 64 : Nat) : Int), ((2 * (m % 32) : Nat) : Int)⟩
theorem un_pack {t : St} (h : Ok6 t) : unSt (datN t) (timN t) = t := by
  have e1 := datN_eq h
  have e2 := timN_eq h
  obtain ⟨⟨h1, h2⟩, ⟨h3, h4⟩, ⟨h5, h6⟩, ⟨h7, h8⟩, ⟨h9, h10⟩, ⟨h11, h12, h13⟩⟩ := h
  refine St.ext' ?_ ?_ ?_ ?_ ?_ ?_
  · show 1980 + ((datN t / 512 : Nat) : Int) = t.y; omega
  · show ((datN t / 32 % 16 : Nat) : Int) = t.mo; omega
  · show ((datN t % 32 : Nat) : Int) = t.d; omega
  · show ((timN t / 2048 : Nat) : Int) = t.h; omega
  · show ((timN t / 32 % 64 : Nat) : Int) = t.mi; omega
  · show ((2 * (timN t % 32) : Nat) : Int) = t.s; omega
theorem pack_un {d m : Nat} : datN (unSt d m) = d ∧ timN (unSt d m) = m := by
  unfold datN timN unSt
  dsimp only
  omega
/-- which of two rows is ahead -/
def cmpK (a b : Int) : Int := if a < b then -1 else if b < a then 1 else 0
def orL : List Int → Int
  | [] => 0
  | x :: r => if x = 0 then orL r else x
def cmpS (a b : St) : Int := orL [cmpK a.y b.y, cmpK a.mo b.mo, cmpK a.d b.d, cmpK a.h b.h, cmpK a.mi b.mi, cmpK a.s b.s]
theorem cmpK_cases (a b : Int) : (a < b ∧ cmpK a b = -1 ∧ cmpK b a = 1) ∨ (a = b ∧ cmpK a b = 0 ∧ cmpK b a = 0) ∨ (b < a ∧ cmpK a b = 1 ∧ cmpK b a = -1) := by
  unfold cmpK
  omega
/-- one step of a row that is ahead -/
def thenI (x r : Int) : Int := if x = 0 then r else x
theorem cmpS_eq (a b : St) : cmpS a b = thenI (cmpK a.y b.y) (thenI (cmpK a.mo b.mo) (thenI (cmpK a.d b.d) (thenI (cmpK a.h b.h) (thenI (cmpK a.mi b.mi) (thenI (cmpK a.s b.s) 0))))) := rfl
theorem thenI_neg (x r : Int) : -(thenI x r) = thenI (-x) (-r) := by unfold thenI; split <;> split <;> omega
theorem cmpK_neg (a b : Int) : cmpK b a = -(cmpK a b) := by unfold cmpK; omega
theorem cmpS_neg (a b : St) : cmpS b a = -(cmpS a b) := by
  rw [cmpS_eq, cmpS_eq]
  simp only [thenI_neg, cmpK_neg b.y a.y, cmpK_neg b.mo a.mo, cmpK_neg b.d a.d, cmpK_neg b.h a.h, cmpK_neg b.mi a.mi, cmpK_neg b.s a.s, Int.neg_neg]
  rfl
theorem thenI_bd {x r : Int} (h1 : -1 ≤ x ∧ x ≤ 1) (h2 : -1 ≤ r ∧ r ≤ 1) : -1 ≤ thenI x r ∧ thenI x r ≤ 1 := by unfold thenI; split <;> assumption
theorem cmpK_bd (a b : Int) : -1 ≤ cmpK a b ∧ cmpK a b ≤ 1 := by unfold cmpK; omega
theorem cmpS_bd (a b : St) : -1 ≤ cmpS a b ∧ cmpS a b ≤ 1 := by
  rw [cmpS_eq]
  exact thenI_bd (cmpK_bd _ _) (thenI_bd (cmpK_bd _ _) (thenI_bd (cmpK_bd _ _) (thenI_bd (cmpK_bd _ _) (thenI_bd (cmpK_bd _ _) (thenI_bd (cmpK_bd _ _) (by omega))))))
theorem thenI_zero {x r : Int} : thenI x r = 0 ↔ x = 0 ∧ r = 0 := by unfold thenI; split <;> omega
theorem cmpK_zero {a b : Int} : cmpK a b = 0 ↔ a = b := by unfold cmpK; omega
theorem cmpS_zero {a b : St} : cmpS a b = 0 ↔ a = b := by
  rw [cmpS_eq]
  simp only [thenI_zero, cmpK_zero]
  constructor
  · rintro ⟨h1, h2, h3, h4, h5, h6, -⟩
    exact St.ext' h1 h2 h3 h4 h5 h6
  · rintro rfl
    simp
/-- three in a row: x of the first two, y of the last two, z of the first and the last -/
def Tri (x y z : Int) : Prop := (x < 0 → y < 0 → z < 0) ∧ (x = 0 → z = y) ∧ (y = 0 → z = x)
theorem tri_cmp (a b c : Int) : Tri (cmpK a b) (cmpK b c) (cmpK a c) := by unfold Tri cmpK; omega
theorem tri_then {x y z p q r : Int} (h : Tri x y z) (g : Tri p q r) : Tri (thenI x p) (thenI y q) (thenI z r) := by
  obtain ⟨h1, h2, h3⟩ := h
  obtain ⟨g1, g2, g3⟩ := g
  unfold Tri thenI
  refine ⟨fun a b => ?_, fun a => ?_, fun a => ?_⟩ <;> (split at * <;> split at * <;> split at * <;> omega)
theorem cmpS_tri (a b c : St) : Tri (cmpS a b) (cmpS b c) (cmpS a c) := by
  rw [cmpS_eq, cmpS_eq, cmpS_eq]
  exact tri_then (tri_cmp _ _ _) (tri_then (tri_cmp _ _ _) (tri_then (tri_cmp _ _ _) (tri_then (tri_cmp _ _ _) (tri_then (tri_cmp _ _ _) (tri_then (tri_cmp _ _ _) ⟨by omega, by omega, by omega⟩)))))
/-- later ones have greater numbers -/
theorem cmpS_pack {a b : St} (ha : Ok6 a) (hb : Ok6 b) : cmpS a b < 0 ↔ datN a < datN b ∨ (datN a = datN b ∧ timN a < timN b) := by
  have e1 := datN_eq ha
  have e2 := timN_eq ha
  have f1 := datN_eq hb
  have f2 := timN_eq hb
  obtain ⟨⟨h1, h2⟩, ⟨h3, h4⟩, ⟨h5, h6⟩, ⟨h7, h8⟩, ⟨h9, h10⟩, ⟨h11, h12, h13⟩⟩ := ha
  obtain ⟨⟨k1, k2⟩, ⟨k3, k4⟩, ⟨k5, k6⟩, ⟨k7, k8⟩, ⟨k9, k10⟩, ⟨k11, k12, k13⟩⟩ := hb
  have hc : cmpS a b < 0 ↔ (a.y < b.y ∨ (a.y = b.y ∧ (a.mo < b.mo ∨ (a.mo = b.mo ∧ (a.d < b.d ∨ (a.d = b.d ∧ (a.h < b.h ∨ (a.h = b.h ∧ (a.mi < b.mi ∨ (a.mi = b.mi ∧ a.s < b.s)))))))))) := by
    have key : ∀ (x y r : Int), thenI (cmpK x y) r < 0 ↔ x < y ∨ (x = y ∧ r < 0) := by intro x y r; unfold thenI cmpK; omega
    rw [cmpS_eq]
    simp only [key]
    omega
  rw [hc]
  omega
end Go.Proofs.YtacllgglpjdobaaDoor
