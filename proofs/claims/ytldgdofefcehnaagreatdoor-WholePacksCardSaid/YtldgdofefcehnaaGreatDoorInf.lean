/-
  UNPACKING, WITHOUT ANY PROGRAM: what bytes unpack to, how many bits it takes, the error. No conditions.
  UNPACKING HANGS ON THE BYTES IT TAKES ALONE (without any program): with other bytes behind it is the same, with fewer they end, with less room there is none. No conditions.
-/
import Derived.Test.YtldgdofefcehnaaGreatDoorCanG
import Derived.Test.YtldgdofefcehnaaGreatDoorSym
namespace Go.Proofs.YtldgdofefcehnaaGreatDoor
section
set_option maxRecDepth 100000
set_option linter.unusedVariables false
def bnd {α β : Type} : Except Nat α → (α → Except Nat β) → Except Nat β
 | .error e, _ => .error e
 | .ok x, f => f x
@[simp] theorem bnd_ok {α β : Type} (x : α) (f : α → Except Nat β) : bnd (.ok x) f = f x := rfl
@[simp] theorem bnd_error {α β : Type} (e : Nat) (f : α → Except Nat β) : bnd (.error e) f = .error e := rfl
theorem bnd_inv {α β : Type} {p : Except Nat α} {f : α → Except Nat β} {y : β} (h : bnd p f = .ok y) : ∃ x, p = .ok x ∧ f x = .ok y := by
 cases p with
 | error e => cases h
 | ok x => exact ⟨x, rfl, h⟩
def nthL (l : List Int) (n : Nat) : Nat → Nat → Nat
 | 0, _ => 0
 | k + 1, j => if gi l k = (n : Int) ∧ cL l n k = j then k else nthL l n k j
theorem nthL_at {l : List Int} {n i k j : Nat} (h1 : gi l i = (n : Int)) (h2 : cL l n i = j) (hi : i < k) : nthL l n k j = i := by
 induction k with
 | zero => omega
 | succ k ih =>
  unfold nthL
  by_cases e : gi l k = (n : Int) ∧ cL l n k = j
  ·rw [if_pos e]
   exact cL_inj e.1 h1 (by omega)
  ·rw [if_neg e]
   refine ih ?_
   rcases Nat.lt_or_ge i k with h | h
   ·exact h
   ·obtain rfl : i = k := by omega
    exact absurd ⟨h1, h2⟩ e
def rdGo (l : List Int) (b : Nat → Bool) (tot a : Nat) : Nat → Nat → Nat × Nat × Nat
 | 0, n => (0, n, 34)
 | f + 1, n =>
  if tot ≤ a + n then (0, n, 20)
  else if cv b a (n + 1) < fK l l.length (n + 1) + cN l l.length (n + 1) then (nthL l (n + 1) l.length (cv b a (n + 1) - fK l l.length (n + 1)), n + 1, 0)
  else rdGo l b tot a f (n + 1)
def rdF (l : List Int) (b : Nat → Bool) (tot a : Nat) : Nat × Nat × Nat := rdGo l b tot a (mxL l l.length) 0
theorem rdGo_ok {l : List Int} {b : Nat → Bool} {tot a : Nat} (ha : a ≤ tot) : ∀ f n, n + f = mxL l l.length → a + n ≤ tot → (∀ k, 1 ≤ k → k ≤ n → fK l l.length k + cN l l.length k ≤ cv b a k) →
  RdS l b tot a (rdGo l b tot a f n).1 (rdGo l b tot a f n).2.1 (rdGo l b tot a f n).2.2 := by
 intro f
 induction f with
 | zero =>
  intro n h1 h2 h3
  exact ⟨fun k h4 h5 => h3 k h4 (by show k ≤ n; exact Nat.le_of_lt h5), .inr (.inr ⟨rfl, rfl, by show n = _; omega, h2, fun h => h3 n h (Nat.le_refl _)⟩)⟩
 | succ f ih =>
  intro n h1 h2 h3
  unfold rdGo
  by_cases e1 : tot ≤ a + n
  ·rw [if_pos e1]
   exact ⟨fun k h4 h5 => h3 k h4 (Nat.le_of_lt h5), .inr (.inl ⟨rfl, rfl, by show n < _; omega, by show a + n = tot; omega, fun h => h3 n h (Nat.le_refl _)⟩)⟩
  ·rw [if_neg e1]
   by_cases e2 : cv b a (n + 1) < fK l l.length (n + 1) + cN l l.length (n + 1)
   ·rw [if_pos e2]
    have hge : fK l l.length (n + 1) ≤ cv b a (n + 1) := by
     have q1 : fK l l.length (n + 1) = 2 * (fK l l.length n + cN l l.length n) := rfl
     have q2 : cv b a (n + 1) = 2 * cv b a n + (b (a + n)).toNat := rfl
     by_cases h0 : 1 ≤ n
     ·have := h3 n h0 (Nat.le_refl _)
      omega
     ·obtain rfl : n = 0 := by omega
      have : fK l l.length 0 + cN l l.length 0 = 0 := rfl
      omega
    have hcn : cN l l.length (n + 1) = cL l (n + 1) l.length := if_neg (by omega)
    obtain ⟨i, hi, h4, h5⟩ := cL_at (l := l) (n := n + 1) (k := l.length) (j := cv b a (n + 1) - fK l l.length (n + 1)) (by omega)
    have hs := nthL_at h4 h5 hi
    refine ⟨fun k h6 h7 => h3 k h6 (by have : k < n + 1 := h7; omega), .inl ⟨rfl, Nat.succ_pos _, by show a + (n + 1) ≤ tot; omega, ?_, ?_, ?_⟩⟩
    ·show nthL _ _ _ _ < _
     rw [hs]; exact hi
    ·show gi l (nthL _ _ _ _) = _
     rw [hs]; exact h4
    ·show cv b a (n + 1) = codeN l (nthL _ _ _ _)
     rw [hs]
     unfold codeN
     have h6 : lnN l i = n + 1 := by unfold lnN; omega
     rw [if_neg (by omega), h6, h5]
     omega
   ·rw [if_neg e2]
    refine ih (n + 1) (by omega) (by omega) fun k h4 h5 => ?_
    by_cases e : k = n + 1
    ·subst e; omega
    ·exact h3 k h4 (by omega)
theorem rdF_ok {l : List Int} {b : Nat → Bool} {tot a : Nat} (ha : a ≤ tot) : RdS l b tot a (rdF l b tot a).1 (rdF l b tot a).2.1 (rdF l b tot a).2.2 :=
 rdGo_ok ha _ 0 (by omega) ha fun k h1 h2 => by omega
theorem rdF_eq {l : List Int} {b : Nat → Bool} {tot a s n e : Nat} (hr : RightL l) (hk : kr l l.length ≤ 32768) (ha : a ≤ tot) (h : RdS l b tot a s n e) : rdF l b tot a = (s, n, e) := by
 obtain ⟨h1, h2, h3⟩ := RdS.unique hr hk (rdF_ok ha) h
 rw [← h1, ← h2, ← h3]
structure Un where
 at_ : Nat
 out : List F
def numF (l : List F) (s : Nat) (u : Un) : Except Nat (Nat × Un) :=
 if u.at_ + s ≤ 8 * l.length then .ok (numB l u.at_ s, ⟨u.at_ + s, u.out⟩) else .error 20
def symF (l : List F) (c : List Int) (u : Un) : Except Nat (Nat × Un) :=
 if (rdF c (rb l) (8 * l.length) u.at_).2.2 = 0 then .ok ((rdF c (rb l) (8 * l.length) u.at_).1, ⟨u.at_ + (rdF c (rb l) (8 * l.length) u.at_).2.1, u.out⟩) else .error (rdF c (rb l) (8 * l.length) u.at_).2.2
def putF (most : Nat) (x : F) (u : Un) : Except Nat Un := if u.out.length < most then .ok ⟨u.at_, u.out ++ [x]⟩ else .error 6
def agF (most dist : Nat) : Nat → Un → Except Nat Un
 | 0, u => .ok u
 | k + 1, u => bnd (putF most (gt u.out (u.out.length - dist)) u) (agF most dist k)
def againF (most k dist : Nat) (u : Un) : Except Nat Un := if u.out.length < dist then .error 35 else agF most dist k u
def meantF (l : List F) (b s : Nat) (ok : Bool) (u : Un) : Except Nat (Nat × Un) := if ok = true then bnd (numF l s u) fun r => .ok (b + r.1, r.2) else .error 34
def farF (l : List F) (most d k : Nat) (u : Un) : Except Nat Un := bnd (meantF l (dbI d) (dxI d) (dokI d) u) fun r => againF most k r.1 r.2
def matchF (l : List F) (most : Nat) (ds : List Int) (s : Nat) (u : Un) : Except Nat Un :=
 bnd (meantF l (lbI s) (lxI s) (lokI s) u) fun r => bnd (symF l ds r.2) fun q => farF l most q.1 r.1 q.2
def stepF (l : List F) (most : Nat) (ls ds : List Int) (u : Un) : Except Nat (Bool × Un) :=
 bnd (symF l ls u) fun r =>
  if r.1 = 256 then .ok (true, r.2)
  else bnd (if r.1 < 256 then putF most (ofN r.1) r.2 else matchF l most ds r.1 r.2) fun u2 => .ok (false, u2)
def loopF (tot : Nat) (f : Un → Except Nat (Bool × Un)) (u : Un) : Except Nat Un :=
 match f u with
 | .error e => .error e
 | .ok (true, u2) => .ok u2
 | .ok (false, u2) => if h : u.at_ < u2.at_ ∧ u2.at_ ≤ tot then loopF tot f u2 else .error 99
termination_by tot - u.at_
theorem loopF_error {tot : Nat} {f : Un → Except Nat (Bool × Un)} {u : Un} {e : Nat} (h : f u = .error e) : loopF tot f u = .error e := by rw [loopF, h]
theorem loopF_done {tot : Nat} {f : Un → Except Nat (Bool × Un)} {u u2 : Un} (h : f u = .ok (true, u2)) : loopF tot f u = .ok u2 := by rw [loopF, h]
theorem loopF_more {tot : Nat} {f : Un → Except Nat (Bool × Un)} {u u2 : Un} (h : f u = .ok (false, u2)) (h1 : u.at_ < u2.at_) (h2 : u2.at_ ≤ tot) : loopF tot f u = loopF tot f u2 := by
 rw [loopF, h]
 exact dif_pos ⟨h1, h2⟩
def codedF (l : List F) (most : Nat) (ls ds : List Int) (u : Un) : Except Nat Un := loopF (8 * l.length) (stepF l most ls ds) u
def blockF (l : List F) (most : Nat) (ls ds : List Int) (u : Un) : Except Nat Un :=
 if errC ls ls.length ≠ 0 then .error (errC ls ls.length) else if errC ds ds.length ≠ 0 then .error (errC ds ds.length) else codedF l most ls ds u
def fixL : List Int := List.replicate 144 8 ++ (List.replicate 112 9 ++ (List.replicate 24 7 ++ List.replicate 8 8))
def fixD : List Int := List.replicate 32 5
def runF (l : List F) (c row : List Int) (u : Un) : Except Nat ((Int × Nat) × Un) :=
 bnd (symF l c u) fun r =>
  if r.1 = 16 then (if row.length = 0 then .error 34 else bnd (numF l 2 r.2) fun q => .ok ((gi row (row.length - 1), 3 + q.1), q.2))
  else if r.1 = 17 then bnd (numF l 3 r.2) fun q => .ok ((0, 3 + q.1), q.2)
  else if r.1 = 18 then bnd (numF l 7 r.2) fun q => .ok ((0, 11 + q.1), q.2)
  else .ok (((r.1 : Nat), 1), r.2)
def lensF (l : List F) (c : List Int) (many : Nat) : Nat → List Int → Un → Except Nat (List Int × Un)
 | 0, _, _ => .error 98
 | f + 1, row, u =>
  if many ≤ row.length then .ok (row, u)
  else bnd (runF l c row u) fun r => if many < row.length + r.1.2 then .error 23 else lensF l c many f (row ++ List.replicate r.1.2 r.1.1) r.2
def ordN : List Nat := [16, 17, 18, 0, 8, 7, 9, 6, 10, 5, 11, 4, 12, 3, 13, 2, 14, 1, 15]
def ownF (l : List F) : List Nat → List Int → Un → Except Nat (List Int × Un)
 | [], own, u => .ok (own, u)
 | s :: r, own, u => bnd (numF l 3 u) fun q => ownF l r (own.set s (q.1 : Int)) q.2
def dynHF (l : List F) (u : Un) : Except Nat ((List Int × List Int) × Un) :=
 bnd (numF l 5 u) fun m => bnd (numF l 5 m.2) fun d => bnd (numF l 4 d.2) fun k =>
  if 286 < m.1 + 257 ∨ 30 < d.1 + 1 then .error 23
  else bnd (ownF l (ordN.take (k.1 + 4)) (List.replicate 19 0) k.2) fun o =>
   if errC o.1 o.1.length ≠ 0 then .error (errC o.1 o.1.length)
   else bnd (lensF l o.1 (m.1 + 257 + (d.1 + 1)) (m.1 + 257 + (d.1 + 1) + 1) [] o.2) fun a =>
    if gi a.1 256 = 0 then .error 21 else .ok ((a.1.take (m.1 + 257), a.1.drop (m.1 + 257)), a.2)
def dynF (l : List F) (most : Nat) (u : Un) : Except Nat Un := bnd (dynHF l u) fun h => blockF l most h.1.1 h.1.2 h.2
def le2 (l : List F) (a : Nat) : Nat := (gt l a).n + 256 * (gt l (a + 1)).n
def stoF (l : List F) (most : Nat) (u : Un) : Except Nat Un :=
 if l.length < (u.at_ + 7) / 8 + 4 then .error 20
 else if le2 l ((u.at_ + 7) / 8 + 2) ≠ 65535 - le2 l ((u.at_ + 7) / 8) then .error 33
 else if most < u.out.length + le2 l ((u.at_ + 7) / 8) then (if l.length < (u.at_ + 7) / 8 + 4 + (most - u.out.length + 1) then .error 20 else .error 6)
 else if l.length < (u.at_ + 7) / 8 + 4 + le2 l ((u.at_ + 7) / 8) then .error 20
 else .ok ⟨8 * ((u.at_ + 7) / 8 + 4 + le2 l ((u.at_ + 7) / 8)), u.out ++ (l.drop ((u.at_ + 7) / 8 + 4)).take (le2 l ((u.at_ + 7) / 8))⟩
def unbF (l : List F) (most : Nat) (u : Un) : Except Nat (Bool × Un) :=
 bnd (numF l 1 u) fun x => bnd (numF l 2 x.2) fun k =>
  bnd (if k.1 = 0 then stoF l most k.2 else if k.1 = 1 then blockF l most fixL fixD k.2 else if k.1 = 2 then dynF l most k.2 else .error 32) fun u2 => .ok (decide (x.1 ≠ 0), u2)
def unpF (l : List F) (most : Nat) : Except Nat Un := loopF (8 * l.length) (unbF l most) ⟨0, []⟩
end
section
set_option maxRecDepth 100000
set_option linter.unusedVariables false
structure LocAt {α : Type} (u : Un) (pr : α → Un) (q : List F → Nat → Except Nat α) : Prop where
 grow : ∀ l m x, u.at_ ≤ 8 * l.length → q l m = .ok x → u.at_ ≤ (pr x).at_ ∧ (pr x).at_ ≤ 8 * l.length ∧ u.out.length ≤ (pr x).out.length ∧ (u.out.length ≤ m → (pr x).out.length ≤ m)
 same : ∀ l m l2 m2 x, u.at_ ≤ 8 * l.length → u.out.length ≤ m → q l m = .ok x → (∀ i, i < (pr x).at_ → rb l2 i = rb l i) → (pr x).at_ ≤ 8 * l2.length → (pr x).out.length ≤ m2 → q l2 m2 = .ok x
 cut : ∀ l m l2 x, u.at_ ≤ 8 * l.length → u.out.length ≤ m → q l m = .ok x → (∀ i, i < 8 * l2.length → rb l2 i = rb l i) → u.at_ ≤ 8 * l2.length → 8 * l2.length < (pr x).at_ → q l2 m = .error 20
 full : ∀ l m m2 x, u.at_ ≤ 8 * l.length → u.out.length ≤ m → q l m = .ok x → u.out.length ≤ m2 → m2 < (pr x).out.length → q l m2 = .error 6
namespace LocAt
variable {α β : Type} {u : Un} {pr : α → Un} {pr2 : β → Un} {q : List F → Nat → Except Nat α}
theorem bind {g : α → List F → Nat → Except Nat β} (h : LocAt u pr q) (hg : ∀ x, LocAt (pr x) pr2 (g x)) : LocAt u pr2 (fun l m => bnd (q l m) fun x => g x l m) := by
 refine ⟨fun l m x ha h1 => ?_, fun l m l2 m2 x ha hm h1 h2 h3 h4 => ?_, fun l m l2 x ha hm h1 h2 h3 h4 => ?_, fun l m m2 x ha hm h1 h2 h3 => ?_⟩
 ·obtain ⟨y, hy, hx⟩ := bnd_inv h1
  obtain ⟨a1, a2, a3, a4⟩ := h.grow l m y ha hy
  obtain ⟨b1, b2, b3, b4⟩ := (hg y).grow l m x a2 hx
  exact ⟨by omega, b2, by omega, fun h => b4 (a4 h)⟩
 ·obtain ⟨y, hy, hx⟩ := bnd_inv h1
  obtain ⟨a1, a2, a3, a4⟩ := h.grow l m y ha hy
  obtain ⟨b1, b2, b3, b4⟩ := (hg y).grow l m x a2 hx
  show bnd (q l2 m2) _ = _
  rw [h.same l m l2 m2 y ha hm hy (fun i hi => h2 i (by omega)) (by omega) (by omega)]
  exact (hg y).same l m l2 m2 x a2 (a4 hm) hx h2 h3 h4
 ·obtain ⟨y, hy, hx⟩ := bnd_inv h1
  obtain ⟨a1, a2, a3, a4⟩ := h.grow l m y ha hy
  obtain ⟨b1, b2, b3, b4⟩ := (hg y).grow l m x a2 hx
  show bnd (q l2 m) _ = _
  by_cases e : (pr y).at_ ≤ 8 * l2.length
  ·rw [h.same l m l2 m y ha hm hy (fun i hi => h2 i (by omega)) e (a4 hm)]
   exact (hg y).cut l m l2 x a2 (a4 hm) hx h2 e h4
  ·rw [h.cut l m l2 y ha hm hy h2 h3 (by omega)]
   rfl
 ·obtain ⟨y, hy, hx⟩ := bnd_inv h1
  obtain ⟨a1, a2, a3, a4⟩ := h.grow l m y ha hy
  obtain ⟨b1, b2, b3, b4⟩ := (hg y).grow l m x a2 hx
  show bnd (q l m2) _ = _
  by_cases e : (pr y).out.length ≤ m2
  ·rw [h.same l m l m2 y ha hm hy (fun i hi => rfl) a2 e]
   exact (hg y).full l m m2 x a2 (a4 hm) hx e h3
  ·rw [h.full l m m2 y ha hm hy h2 (by omega)]
   rfl
theorem err {e : Nat} : LocAt u pr (fun _ _ => .error e) :=
 ⟨fun l m x _ h => (by cases h), fun l m l2 m2 x _ _ h => (by cases h), fun l m l2 x _ _ h => (by cases h), fun l m m2 x _ _ h => (by cases h)⟩
theorem pur {x : α} (hx : pr x = u) : LocAt u pr (fun _ _ => .ok x) := by
 subst hx
 refine ⟨fun l m y ha h => ?_, fun l m l2 m2 y ha hm h h2 h3 h4 => h, fun l m l2 y ha hm h h2 h3 h4 => ?_, fun l m m2 y ha hm h h2 h3 => ?_⟩
 ·injection h with h
  subst h
  exact ⟨Nat.le_refl _, ha, Nat.le_refl _, fun h => h⟩
 ·injection h with h
  subst h
  omega
 ·injection h with h
  subst h
  omega
theorem ite {c : Prop} [Decidable c] {r : List F → Nat → Except Nat α} (h1 : c → LocAt u pr q) (h2 : ¬ c → LocAt u pr r) : LocAt u pr (fun l m => if c then q l m else r l m) := by
 by_cases e : c
 ·have : (fun l m => if c then q l m else r l m) = q := by funext l m; rw [if_pos e]
  rw [this]
  exact h1 e
 ·have : (fun l m => if c then q l m else r l m) = r := by funext l m; rw [if_neg e]
  rw [this]
  exact h2 e
end LocAt
theorem numB_same {l l2 : List F} {a n : Nat} (h : ∀ i, i < a + n → rb l2 i = rb l i) : numB l2 a n = numB l a n := bsN_congr fun i hi => h _ (by omega)
theorem numF_loc (s : Nat) (u : Un) : LocAt u Prod.snd (fun l _ => numF l s u) := by
 have inv : ∀ l x, numF l s u = .ok x → u.at_ + s ≤ 8 * l.length ∧ x = (numB l u.at_ s, ⟨u.at_ + s, u.out⟩) := fun l x h => by
  unfold numF at h
  by_cases e : u.at_ + s ≤ 8 * l.length
  ·rw [if_pos e] at h
   injection h with h
   exact ⟨e, h.symm⟩
  ·rw [if_neg e] at h
   cases h
 refine ⟨fun l m x ha h1 => ?_, fun l m l2 m2 x ha hm h1 h2 h3 h4 => ?_, fun l m l2 x ha hm h1 h2 h3 h4 => ?_, fun l m m2 x ha hm h1 h2 h3 => ?_⟩
 ·obtain ⟨h2, rfl⟩ := inv l x h1
  exact ⟨Nat.le_add_right _ _, h2, Nat.le_refl _, fun h => h⟩
 ·obtain ⟨_, rfl⟩ := inv l x h1
  show numF l2 s u = _
  unfold numF
  rw [if_pos h3, numB_same h2]
 ·obtain ⟨_, rfl⟩ := inv l x h1
  show numF l2 s u = _
  unfold numF
  rw [if_neg (by have : 8 * l2.length < u.at_ + s := h4; omega)]
 ·obtain ⟨_, rfl⟩ := inv l x h1
  have : m2 < u.out.length := h3
  omega
theorem cv_same {b b2 : Nat → Bool} {a n : Nat} (h : ∀ i, i < a + n → b2 i = b i) : cv b2 a n = cv b a n := by
 induction n with
 | zero => rfl
 | succ n ih =>
  unfold cv
  rw [ih fun i hi => h i (by omega), h (a + n) (by omega)]
theorem rdGo_bounds {l : List Int} {b : Nat → Bool} {tot a s k : Nat} : ∀ f n, rdGo l b tot a f n = (s, k, 0) → n + 1 ≤ k ∧ a + k ≤ tot := by
 intro f
 induction f with
 | zero => intro n h; unfold rdGo at h; injection h with _ h; injection h with _ h; cases h
 | succ f ih =>
  intro n h
  unfold rdGo at h
  by_cases e1 : tot ≤ a + n
  ·rw [if_pos e1] at h
   injection h with _ h; injection h with _ h; cases h
  ·rw [if_neg e1] at h
   split at h
   ·injection h with _ h; injection h with h _
    omega
   ·have := ih (n + 1) h
    omega
theorem rdGo_same {l : List Int} {b b2 : Nat → Bool} {tot tot2 a s k : Nat} (hb : ∀ i, i < a + k → b2 i = b i) (ht : a + k ≤ tot2) : ∀ f n, rdGo l b tot a f n = (s, k, 0) → rdGo l b2 tot2 a f n = (s, k, 0) := by
 intro f
 induction f with
 | zero => intro n h; unfold rdGo at h; injection h with _ h; injection h with _ h; cases h
 | succ f ih =>
  intro n h
  have hbd := rdGo_bounds (f + 1) n h
  unfold rdGo at h ⊢
  by_cases e1 : tot ≤ a + n
  ·rw [if_pos e1] at h
   injection h with _ h; injection h with _ h; cases h
  ·rw [if_neg e1] at h
   rw [if_neg (by omega), cv_same (b := b) (b2 := b2) fun i hi => hb i (by omega)]
   split at h
   ·rename_i e2
    rw [if_pos e2]
    exact h
   ·rename_i e2
    rw [if_neg e2]
    exact ih (n + 1) h
theorem rdGo_cut {l : List Int} {b b2 : Nat → Bool} {tot tot2 a s k : Nat} (hb : ∀ i, i < tot2 → b2 i = b i) (ht : tot2 < a + k) : ∀ f n, a + n ≤ tot2 → rdGo l b tot a f n = (s, k, 0) → (rdGo l b2 tot2 a f n).2.2 = 20 := by
 intro f
 induction f with
 | zero => intro n _ h; unfold rdGo at h; injection h with _ h; injection h with _ h; cases h
 | succ f ih =>
  intro n hn h
  unfold rdGo at h ⊢
  by_cases e1 : tot ≤ a + n
  ·rw [if_pos e1] at h
   injection h with _ h; injection h with _ h; cases h
  ·rw [if_neg e1] at h
   by_cases e3 : tot2 ≤ a + n
   ·rw [if_pos e3]
   ·rw [if_neg e3, cv_same (b := b) (b2 := b2) fun i hi => hb i (by omega)]
    split at h
    ·injection h with _ h; injection h with h _
     omega
    ·rename_i e2
     rw [if_neg e2]
     exact ih (n + 1) (by omega) h
theorem symF_inv {l : List F} {c : List Int} {u : Un} {x : Nat × Un} (h : symF l c u = .ok x) : ∃ k, rdF c (rb l) (8 * l.length) u.at_ = (x.1, k, 0) ∧ x.2 = ⟨u.at_ + k, u.out⟩ := by
 unfold symF at h
 generalize hr : rdF c (rb l) (8 * l.length) u.at_ = r at h
 obtain ⟨s, k, e⟩ := r
 by_cases h0 : e = 0
 ·subst h0
  rw [if_pos rfl] at h
  injection h with h
  subst h
  exact ⟨k, rfl, rfl⟩
 ·rw [if_neg h0] at h
  cases h
theorem symF_prog {l : List F} {c : List Int} {u : Un} {x : Nat × Un} (h : symF l c u = .ok x) : u.at_ < x.2.at_ ∧ x.2.at_ ≤ 8 * l.length ∧ x.2.out = u.out := by
 obtain ⟨k, h1, h2⟩ := symF_inv h
 have h3 := rdGo_bounds _ _ h1
 rw [h2]
 exact ⟨by show u.at_ < u.at_ + k; omega, h3.2, rfl⟩
theorem symF_loc (c : List Int) (u : Un) : LocAt u Prod.snd (fun l _ => symF l c u) := by
 refine ⟨fun l m x ha h1 => ?_, fun l m l2 m2 x ha hm h1 h2 h3 h4 => ?_, fun l m l2 x ha hm h1 h2 h3 h4 => ?_, fun l m m2 x ha hm h1 h2 h3 => ?_⟩
 ·obtain ⟨p1, p2, p3⟩ := symF_prog h1
  exact ⟨Nat.le_of_lt p1, p2, by rw [p3]; exact Nat.le_refl _, fun h => by rw [p3]; exact h⟩
 ·obtain ⟨k, q1, q2⟩ := symF_inv h1
  have e : x.2.at_ = u.at_ + k := by rw [q2]
  have h5 := rdGo_same (b2 := rb l2) (tot2 := 8 * l2.length) (fun i hi => h2 i (by rw [e]; exact hi)) (by rw [← e]; exact h3) _ _ q1
  show symF l2 c u = _
  unfold symF
  rw [show rdF c (rb l2) (8 * l2.length) u.at_ = (x.1, k, 0) from h5, if_pos rfl, ← q2]
 ·obtain ⟨k, q1, q2⟩ := symF_inv h1
  have e : x.2.at_ = u.at_ + k := by rw [q2]
  have h5 := rdGo_cut (b2 := rb l2) (tot2 := 8 * l2.length) h2 (by rw [← e]; exact h4) _ 0 h3 q1
  show symF l2 c u = _
  unfold symF
  rw [if_neg (by unfold rdF; rw [h5]; decide)]
  congr 1
 ·obtain ⟨k, q1, q2⟩ := symF_inv h1
  have e : x.2.out = u.out := by rw [q2]
  rw [e] at h3
  omega
theorem putF_inv {m : Nat} {x : F} {u u2 : Un} (h : putF m x u = .ok u2) : u.out.length < m ∧ u2 = ⟨u.at_, u.out ++ [x]⟩ := by
 unfold putF at h
 by_cases e : u.out.length < m
 ·rw [if_pos e] at h
  injection h with h
  exact ⟨e, h.symm⟩
 ·rw [if_neg e] at h
  cases h
theorem putF_loc (c : F) (u : Un) : LocAt u id (fun _ m => putF m c u) := by
 refine ⟨fun l m x ha h1 => ?_, fun l m l2 m2 x ha hm h1 h2 h3 h4 => ?_, fun l m l2 x ha hm h1 h2 h3 h4 => ?_, fun l m m2 x ha hm h1 h2 h3 => ?_⟩
 ·obtain ⟨h2, rfl⟩ := putF_inv h1
  exact ⟨Nat.le_refl _, ha, by simp, fun _ => by simp; omega⟩
 ·obtain ⟨_, rfl⟩ := putF_inv h1
  show putF m2 c u = _
  unfold putF
  have h5 : (u.out ++ [c]).length ≤ m2 := h4
  rw [if_pos (by simp at h5; omega)]
 ·obtain ⟨_, rfl⟩ := putF_inv h1
  have : 8 * l2.length < u.at_ := h4
  omega
 ·obtain ⟨_, rfl⟩ := putF_inv h1
  show putF m2 c u = _
  unfold putF
  rw [if_neg (by have : m2 < u.out.length + 1 := by simpa using h3
                 omega)]
theorem agF_loc (d k : Nat) : ∀ u : Un, LocAt u id (fun _ m => agF m d k u) := by
 induction k with
 | zero => exact fun u => LocAt.pur rfl
 | succ k ih => exact fun u => LocAt.bind (pr := id) (g := fun x _ m => agF m d k x) (putF_loc _ u) fun x => ih x
theorem againF_loc (k d : Nat) (u : Un) : LocAt u id (fun _ m => againF m k d u) := LocAt.ite (fun _ => LocAt.err) (fun _ => agF_loc d k u)
theorem meantF_loc (b s : Nat) (ok : Bool) (u : Un) : LocAt u Prod.snd (fun l _ => meantF l b s ok u) :=
 LocAt.ite (fun _ => LocAt.bind (pr := Prod.snd) (g := fun r _ _ => .ok (b + r.1, r.2)) (numF_loc s u) fun x => LocAt.pur rfl) (fun _ => LocAt.err)
theorem farF_loc (d k : Nat) (u : Un) : LocAt u id (fun l m => farF l m d k u) :=
 LocAt.bind (pr := Prod.snd) (g := fun r _ m => againF m k r.1 r.2) (meantF_loc _ _ _ u) fun x => againF_loc _ _ x.2
theorem matchF_loc (ds : List Int) (s : Nat) (u : Un) : LocAt u id (fun l m => matchF l m ds s u) :=
 LocAt.bind (pr := Prod.snd) (g := fun r l m => bnd (symF l ds r.2) fun q => farF l m q.1 r.1 q.2) (meantF_loc _ _ _ u) fun x =>
  LocAt.bind (pr := Prod.snd) (g := fun q l m => farF l m q.1 x.1 q.2) (symF_loc ds x.2) fun y => farF_loc _ _ y.2
theorem stepF_loc (ls ds : List Int) (u : Un) : LocAt u Prod.snd (fun l m => stepF l m ls ds u) :=
 LocAt.bind (pr := Prod.snd) (g := fun r l m => if r.1 = 256 then .ok (true, r.2) else bnd (if r.1 < 256 then putF m (ofN r.1) r.2 else matchF l m ds r.1 r.2) fun u2 => .ok (false, u2)) (symF_loc ls u) fun x =>
  LocAt.ite (fun _ => LocAt.pur rfl) (fun _ => LocAt.bind (pr := id) (q := fun l m => if x.1 < 256 then putF m (ofN x.1) x.2 else matchF l m ds x.1 x.2) (g := fun u2 _ _ => .ok (false, u2))
   (LocAt.ite (fun _ => putF_loc _ _) (fun _ => matchF_loc _ _ _)) fun y => LocAt.pur rfl)
theorem loopF_inv {tot : Nat} {f : Un → Except Nat (Bool × Un)} {u x : Un} (h : loopF tot f u = .ok x) : f u = .ok (true, x) ∨ ∃ u2, f u = .ok (false, u2) ∧ u.at_ < u2.at_ ∧ u2.at_ ≤ tot ∧ loopF tot f u2 = .ok x := by
 rw [loopF] at h
 split at h
 ·cases h
 ·rename_i u2 hu
  injection h with h
  subst h
  exact .inl hu
 ·rename_i u2 hu
  by_cases e : u.at_ < u2.at_ ∧ u2.at_ ≤ tot
  ·rw [dif_pos e] at h
   exact .inr ⟨u2, hu, e.1, e.2, h⟩
  ·rw [dif_neg e] at h
   cases h
theorem loopF_loc {f : List F → Nat → Un → Except Nat (Bool × Un)} (hf : ∀ u, LocAt u Prod.snd (fun l m => f l m u)) (u : Un) : LocAt u id (fun l m => loopF (8 * l.length) (f l m) u) := by
 have g : ∀ n l m u x, 8 * l.length - u.at_ ≤ n → u.at_ ≤ 8 * l.length → loopF (8 * l.length) (f l m) u = .ok x →
   u.at_ ≤ x.at_ ∧ x.at_ ≤ 8 * l.length ∧ u.out.length ≤ x.out.length ∧ (u.out.length ≤ m → x.out.length ≤ m) := by
  intro n
  induction n with
  | zero =>
   intro l m u x hn ha h
   rcases loopF_inv h with h1 | ⟨u2, h1, h2, h3, h4⟩
   ·exact (hf u).grow l m _ ha h1
   ·omega
  | succ n ih =>
   intro l m u x hn ha h
   rcases loopF_inv h with h1 | ⟨u2, h1, h2, h3, h4⟩
   ·exact (hf u).grow l m _ ha h1
   ·obtain ⟨a1, a2, a3, a4⟩ := (hf u).grow l m _ ha h1
    obtain ⟨b1, b2, b3, b4⟩ := ih l m u2 x (by omega) h3 h4
    exact ⟨Nat.le_trans a1 b1, b2, Nat.le_trans a3 b3, fun h => b4 (a4 h)⟩
 have s : ∀ n l m l2 m2 u x, 8 * l.length - u.at_ ≤ n → u.at_ ≤ 8 * l.length → u.out.length ≤ m → loopF (8 * l.length) (f l m) u = .ok x → (∀ i, i < x.at_ → rb l2 i = rb l i) → x.at_ ≤ 8 * l2.length → x.out.length ≤ m2 →
   loopF (8 * l2.length) (f l2 m2) u = .ok x := by
  intro n
  induction n with
  | zero =>
   intro l m l2 m2 u x hn ha hm h h2 h3 h4
   rcases loopF_inv h with h1 | ⟨u2, h1, h5, h6, h7⟩
   ·exact loopF_done ((hf u).same l m l2 m2 _ ha hm h1 h2 h3 h4)
   ·omega
  | succ n ih =>
   intro l m l2 m2 u x hn ha hm h h2 h3 h4
   rcases loopF_inv h with h1 | ⟨u2, h1, h5, h6, h7⟩
   ·exact loopF_done ((hf u).same l m l2 m2 _ ha hm h1 h2 h3 h4)
   ·obtain ⟨a1, a2, a3, a4⟩ := (hf u).grow l m _ ha h1
    obtain ⟨b1, b2, b3, b4⟩ := g _ l m u2 x (Nat.le_refl _) h6 h7
    rw [loopF_more ((hf u).same l m l2 m2 _ ha hm h1 (fun i hi => h2 i (Nat.lt_of_lt_of_le hi b1)) (Nat.le_trans b1 h3) (Nat.le_trans b3 h4)) h5 (Nat.le_trans b1 h3)]
    exact ih l m l2 m2 u2 x (by omega) h6 (a4 hm) h7 h2 h3 h4
 refine ⟨fun l m x ha h => g _ l m u x (Nat.le_refl _) ha h, fun l m l2 m2 x ha hm h h2 h3 h4 => s _ l m l2 m2 u x (Nat.le_refl _) ha hm h h2 h3 h4, fun l m l2 x ha hm h h2 h3 h4 => ?_, fun l m m2 x ha hm h h2 h3 => ?_⟩
 ·have c : ∀ n u, 8 * l.length - u.at_ ≤ n → u.at_ ≤ 8 * l.length → u.out.length ≤ m → loopF (8 * l.length) (f l m) u = .ok x → u.at_ ≤ 8 * l2.length → loopF (8 * l2.length) (f l2 m) u = .error 20 := by
   intro n
   induction n with
   | zero =>
    intro u hn ha hm h h3
    rcases loopF_inv h with h1 | ⟨u2, h1, h5, h6, h7⟩
    ·exact loopF_error ((hf u).cut l m l2 _ ha hm h1 h2 h3 h4)
    ·omega
   | succ n ih =>
    intro u hn ha hm h h3
    rcases loopF_inv h with h1 | ⟨u2, h1, h5, h6, h7⟩
    ·exact loopF_error ((hf u).cut l m l2 _ ha hm h1 h2 h3 h4)
    ·obtain ⟨a1, a2, a3, a4⟩ := (hf u).grow l m _ ha h1
     by_cases e : u2.at_ ≤ 8 * l2.length
     ·rw [loopF_more ((hf u).same l m l2 m _ ha hm h1 (fun i hi => h2 i (Nat.lt_of_lt_of_le hi e)) e (a4 hm)) h5 e]
      exact ih u2 (by omega) h6 (a4 hm) h7 e
     ·exact loopF_error ((hf u).cut l m l2 _ ha hm h1 h2 h3 (by show 8 * l2.length < u2.at_; omega))
  exact c _ u (Nat.le_refl _) ha hm h h3
 ·have c : ∀ n u, 8 * l.length - u.at_ ≤ n → u.at_ ≤ 8 * l.length → u.out.length ≤ m → loopF (8 * l.length) (f l m) u = .ok x → u.out.length ≤ m2 → loopF (8 * l.length) (f l m2) u = .error 6 := by
   intro n
   induction n with
   | zero =>
    intro u hn ha hm h h2
    rcases loopF_inv h with h1 | ⟨u2, h1, h5, h6, h7⟩
    ·exact loopF_error ((hf u).full l m m2 _ ha hm h1 h2 h3)
    ·omega
   | succ n ih =>
    intro u hn ha hm h h2
    rcases loopF_inv h with h1 | ⟨u2, h1, h5, h6, h7⟩
    ·exact loopF_error ((hf u).full l m m2 _ ha hm h1 h2 h3)
    ·obtain ⟨a1, a2, a3, a4⟩ := (hf u).grow l m _ ha h1
     by_cases e : u2.out.length ≤ m2
     ·rw [loopF_more ((hf u).same l m l m2 _ ha hm h1 (fun i hi => rfl) h6 e) h5 h6]
      exact ih u2 (by omega) h6 (a4 hm) h7 e
     ·exact loopF_error ((hf u).full l m m2 _ ha hm h1 h2 (by show m2 < u2.out.length; omega))
  exact c _ u (Nat.le_refl _) ha hm h h2
theorem blockF_loc (ls ds : List Int) (u : Un) : LocAt u id (fun l m => blockF l m ls ds u) :=
 LocAt.ite (fun _ => LocAt.err) (fun _ => LocAt.ite (fun _ => LocAt.err) (fun _ => loopF_loc (stepF_loc ls ds) u))
theorem runF_loc (c row : List Int) (u : Un) : LocAt u Prod.snd (fun l _ => runF l c row u) :=
 LocAt.bind (pr := Prod.snd) (g := fun r l _ =>
  if r.1 = 16 then (if row.length = 0 then .error 34 else bnd (numF l 2 r.2) fun q => .ok ((gi row (row.length - 1), 3 + q.1), q.2))
  else if r.1 = 17 then bnd (numF l 3 r.2) fun q => .ok ((0, 3 + q.1), q.2)
  else if r.1 = 18 then bnd (numF l 7 r.2) fun q => .ok ((0, 11 + q.1), q.2)
  else .ok (((r.1 : Nat), 1), r.2)) (symF_loc c u) fun x =>
  LocAt.ite (fun _ => LocAt.ite (fun _ => LocAt.err) (fun _ => LocAt.bind (pr := Prod.snd) (g := fun q _ _ => .ok ((gi row (row.length - 1), 3 + q.1), q.2)) (numF_loc 2 x.2) fun y => LocAt.pur rfl))
   (fun _ => LocAt.ite (fun _ => LocAt.bind (pr := Prod.snd) (g := fun q _ _ => .ok ((0, 3 + q.1), q.2)) (numF_loc 3 x.2) fun y => LocAt.pur rfl)
    (fun _ => LocAt.ite (fun _ => LocAt.bind (pr := Prod.snd) (g := fun q _ _ => .ok ((0, 11 + q.1), q.2)) (numF_loc 7 x.2) fun y => LocAt.pur rfl) (fun _ => LocAt.pur rfl)))
theorem lensF_loc (c : List Int) (many f : Nat) : ∀ (row : List Int) (u : Un), LocAt u Prod.snd (fun l _ => lensF l c many f row u) := by
 induction f with
 | zero => exact fun row u => LocAt.err
 | succ f ih =>
  exact fun row u => LocAt.ite (fun _ => LocAt.pur rfl) (fun _ => LocAt.bind (pr := Prod.snd) (g := fun r l _ => if many < row.length + r.1.2 then .error 23 else lensF l c many f (row ++ List.replicate r.1.2 r.1.1) r.2) (runF_loc c row u) fun x =>
   LocAt.ite (fun _ => LocAt.err) (fun _ => ih _ x.2))
theorem ownF_loc (o : List Nat) : ∀ (own : List Int) (u : Un), LocAt u Prod.snd (fun l _ => ownF l o own u) := by
 induction o with
 | nil => exact fun own u => LocAt.pur rfl
 | cons s r ih => exact fun own u => (LocAt.bind (pr := Prod.snd) (q := fun l _ => numF l 3 u) (g := fun q l _ => ownF l r (own.set s (q.1 : Int)) q.2) (numF_loc 3 u) fun x => ih _ x.2 : LocAt u Prod.snd (fun l _ => bnd (numF l 3 u) fun q => ownF l r (own.set s (q.1 : Int)) q.2))
theorem dynHF_loc (u : Un) : LocAt u Prod.snd (fun l _ => dynHF l u) :=
 LocAt.bind (pr := Prod.snd) (g := fun m l _ => bnd (numF l 5 m.2) fun d => bnd (numF l 4 d.2) fun k =>
  if 286 < m.1 + 257 ∨ 30 < d.1 + 1 then .error 23
  else bnd (ownF l (ordN.take (k.1 + 4)) (List.replicate 19 0) k.2) fun o =>
   if errC o.1 o.1.length ≠ 0 then .error (errC o.1 o.1.length)
   else bnd (lensF l o.1 (m.1 + 257 + (d.1 + 1)) (m.1 + 257 + (d.1 + 1) + 1) [] o.2) fun a =>
    if gi a.1 256 = 0 then .error 21 else .ok ((a.1.take (m.1 + 257), a.1.drop (m.1 + 257)), a.2)) (numF_loc 5 u) fun m =>
 LocAt.bind (pr := Prod.snd) (g := fun d l _ => bnd (numF l 4 d.2) fun k =>
  if 286 < m.1 + 257 ∨ 30 < d.1 + 1 then .error 23
  else bnd (ownF l (ordN.take (k.1 + 4)) (List.replicate 19 0) k.2) fun o =>
   if errC o.1 o.1.length ≠ 0 then .error (errC o.1 o.1.length)
   else bnd (lensF l o.1 (m.1 + 257 + (d.1 + 1)) (m.1 + 257 + (d.1 + 1) + 1) [] o.2) fun a =>
    if gi a.1 256 = 0 then .error 21 else .ok ((a.1.take (m.1 + 257), a.1.drop (m.1 + 257)), a.2)) (numF_loc 5 m.2) fun d =>
 LocAt.bind (pr := Prod.snd) (g := fun k l _ =>
  if 286 < m.1 + 257 ∨ 30 < d.1 + 1 then .error 23
  else bnd (ownF l (ordN.take (k.1 + 4)) (List.replicate 19 0) k.2) fun o =>
   if errC o.1 o.1.length ≠ 0 then .error (errC o.1 o.1.length)
   else bnd (lensF l o.1 (m.1 + 257 + (d.1 + 1)) (m.1 + 257 + (d.1 + 1) + 1) [] o.2) fun a =>
    if gi a.1 256 = 0 then .error 21 else .ok ((a.1.take (m.1 + 257), a.1.drop (m.1 + 257)), a.2)) (numF_loc 4 d.2) fun k =>
 LocAt.ite (fun _ => LocAt.err) fun _ =>
 LocAt.bind (pr := Prod.snd) (g := fun o l _ =>
   if errC o.1 o.1.length ≠ 0 then .error (errC o.1 o.1.length)
   else bnd (lensF l o.1 (m.1 + 257 + (d.1 + 1)) (m.1 + 257 + (d.1 + 1) + 1) [] o.2) fun a =>
    if gi a.1 256 = 0 then .error 21 else .ok ((a.1.take (m.1 + 257), a.1.drop (m.1 + 257)), a.2)) (ownF_loc _ _ k.2) fun o =>
 LocAt.ite (fun _ => LocAt.err) fun _ =>
 LocAt.bind (pr := Prod.snd) (g := fun a _ _ => if gi a.1 256 = 0 then .error 21 else .ok ((a.1.take (m.1 + 257), a.1.drop (m.1 + 257)), a.2)) (lensF_loc _ _ _ _ o.2) fun a =>
 LocAt.ite (fun _ => LocAt.err) fun _ => LocAt.pur rfl
theorem dynF_loc (u : Un) : LocAt u id (fun l m => dynF l m u) :=
 LocAt.bind (pr := Prod.snd) (g := fun h l m => blockF l m h.1.1 h.1.2 h.2) (dynHF_loc u) fun h => blockF_loc _ _ h.2
theorem byte_same {l l2 : List F} {i : Nat} (h : ∀ j, j < 8 * (i + 1) → rb l2 j = rb l j) : gt l2 i = gt l i := by
 refine F.ext ?_
 rw [← byteN_bitsOf, ← byteN_bitsOf]
 unfold byteN
 refine bsN_congr fun k hk => ?_
 rw [gbit_bitsOf, gbit_bitsOf]
 exact h _ (by omega)
theorem stoF_inv {l : List F} {m : Nat} {u x : Un} (h : stoF l m u = .ok x) : (u.at_ + 7) / 8 + 4 + le2 l ((u.at_ + 7) / 8) ≤ l.length ∧ le2 l ((u.at_ + 7) / 8 + 2) = 65535 - le2 l ((u.at_ + 7) / 8) ∧ u.out.length + le2 l ((u.at_ + 7) / 8) ≤ m ∧
  x = ⟨8 * ((u.at_ + 7) / 8 + 4 + le2 l ((u.at_ + 7) / 8)), u.out ++ (l.drop ((u.at_ + 7) / 8 + 4)).take (le2 l ((u.at_ + 7) / 8))⟩ := by
 unfold stoF at h
 generalize (u.at_ + 7) / 8 = a at *
 by_cases e1 : l.length < a + 4
 ·rw [if_pos e1] at h; cases h
 rw [if_neg e1] at h
 by_cases e2 : le2 l (a + 2) ≠ 65535 - le2 l a
 ·rw [if_pos e2] at h; cases h
 rw [if_neg e2] at h
 by_cases e3 : m < u.out.length + le2 l a
 ·rw [if_pos e3] at h
  split at h <;> cases h
 rw [if_neg e3] at h
 by_cases e4 : l.length < a + 4 + le2 l a
 ·rw [if_pos e4] at h; cases h
 rw [if_neg e4] at h
 injection h with h
 exact ⟨by omega, by omega, by omega, h.symm⟩
theorem stoF_loc (u : Un) : LocAt u id (fun l m => stoF l m u) := by
 refine ⟨fun l m x ha h1 => ?_, fun l m l2 m2 x ha hm h1 h2 h3 h4 => ?_, fun l m l2 x ha hm h1 h2 h3 h4 => ?_, fun l m m2 x ha hm h1 h2 h3 => ?_⟩
 ·obtain ⟨c1, c2, c3, rfl⟩ := stoF_inv h1
  refine ⟨?_, ?_, ?_, fun _ => ?_⟩
  ·show u.at_ ≤ 8 * _; omega
  ·show 8 * _ ≤ 8 * _; omega
  ·simp
  ·simp; omega
 ·obtain ⟨c1, c2, c3, rfl⟩ := stoF_inv h1
  have h3 : 8 * ((u.at_ + 7) / 8 + 4 + le2 l ((u.at_ + 7) / 8)) ≤ 8 * l2.length := h3
  have h4 : (u.out ++ (l.drop ((u.at_ + 7) / 8 + 4)).take (le2 l ((u.at_ + 7) / 8))).length ≤ m2 := h4
  have h2 : ∀ i, i < 8 * ((u.at_ + 7) / 8 + 4 + le2 l ((u.at_ + 7) / 8)) → rb l2 i = rb l i := h2
  show stoF l2 m2 u = _
  unfold stoF
  generalize (u.at_ + 7) / 8 = a at *
  have hg : ∀ i, i < a + 4 + le2 l a → gt l2 i = gt l i := fun i hi => byte_same fun j hj => h2 j (by omega)
  have e0 : le2 l2 a = le2 l a := by unfold le2; rw [hg a (by omega), hg (a + 1) (by omega)]
  have e1 : le2 l2 (a + 2) = le2 l (a + 2) := by unfold le2; rw [hg (a + 2) (by omega), hg (a + 2 + 1) (by omega)]
  rw [List.length_append, List.length_take, List.length_drop] at h4
  rw [e0, e1, if_neg (by omega), if_neg (by omega), if_neg (by omega), if_neg (by omega)]
  congr 3
  refine ext_gt (by rw [List.length_take, List.length_take, List.length_drop, List.length_drop]; omega) fun i hi => ?_
  rw [List.length_take, List.length_drop] at hi
  rw [gt_take, gt_take, if_pos (by omega), if_pos (by omega), gt_drop, gt_drop]
  exact hg _ (by omega)
 ·obtain ⟨c1, c2, c3, rfl⟩ := stoF_inv h1
  have h4 : 8 * l2.length < 8 * ((u.at_ + 7) / 8 + 4 + le2 l ((u.at_ + 7) / 8)) := h4
  show stoF l2 m u = _
  unfold stoF
  generalize (u.at_ + 7) / 8 = a at *
  have hg : ∀ i, i < l2.length → gt l2 i = gt l i := fun i hi => byte_same fun j hj => h2 j (by omega)
  by_cases e : l2.length < a + 4
  ·rw [if_pos e]
  ·have e0 : le2 l2 a = le2 l a := by unfold le2; rw [hg a (by omega), hg (a + 1) (by omega)]
   have e1 : le2 l2 (a + 2) = le2 l (a + 2) := by unfold le2; rw [hg (a + 2) (by omega), hg (a + 2 + 1) (by omega)]
   rw [if_neg e, e0, e1, if_neg (by omega), if_neg (by omega), if_pos (by omega)]
 ·obtain ⟨c1, c2, c3, rfl⟩ := stoF_inv h1
  have h3 : m2 < (u.out ++ (l.drop ((u.at_ + 7) / 8 + 4)).take (le2 l ((u.at_ + 7) / 8))).length := h3
  rw [List.length_append, List.length_take, List.length_drop] at h3
  show stoF l m2 u = _
  unfold stoF
  generalize (u.at_ + 7) / 8 = a at *
  rw [if_neg (by omega), if_neg (by omega), if_pos (by omega), if_neg (by omega)]
theorem unbF_loc (u : Un) : LocAt u Prod.snd (fun l m => unbF l m u) :=
 LocAt.bind (pr := Prod.snd) (g := fun x l m => bnd (numF l 2 x.2) fun k =>
  bnd (if k.1 = 0 then stoF l m k.2 else if k.1 = 1 then blockF l m fixL fixD k.2 else if k.1 = 2 then dynF l m k.2 else .error 32) fun u2 => .ok (decide (x.1 ≠ 0), u2)) (numF_loc 1 u) fun x =>
 LocAt.bind (pr := Prod.snd) (g := fun k l m => bnd (if k.1 = 0 then stoF l m k.2 else if k.1 = 1 then blockF l m fixL fixD k.2 else if k.1 = 2 then dynF l m k.2 else .error 32) fun u2 => .ok (decide (x.1 ≠ 0), u2)) (numF_loc 2 x.2) fun k =>
 LocAt.bind (pr := id) (q := fun l m => if k.1 = 0 then stoF l m k.2 else if k.1 = 1 then blockF l m fixL fixD k.2 else if k.1 = 2 then dynF l m k.2 else .error 32) (g := fun u2 _ _ => .ok (decide (x.1 ≠ 0), u2))
  (LocAt.ite (fun _ => stoF_loc _) fun _ => LocAt.ite (fun _ => blockF_loc _ _ _) fun _ => LocAt.ite (fun _ => dynF_loc _) fun _ => LocAt.err) fun y => LocAt.pur rfl
theorem unpF_loc : LocAt ⟨0, []⟩ id unpF := loopF_loc unbF_loc ⟨0, []⟩
theorem numF_inv {l : List F} {s : Nat} {u : Un} {x : Nat × Un} (h : numF l s u = .ok x) : u.at_ + s ≤ 8 * l.length ∧ x = (numB l u.at_ s, ⟨u.at_ + s, u.out⟩) := by
 unfold numF at h
 by_cases e : u.at_ + s ≤ 8 * l.length
 ·rw [if_pos e] at h
  injection h with h
  exact ⟨e, h.symm⟩
 ·rw [if_neg e] at h
  cases h
theorem stepF_prog {l : List F} {m : Nat} {ls ds : List Int} {u : Un} {x : Bool × Un} (ha : u.at_ ≤ 8 * l.length) (h : stepF l m ls ds u = .ok x) : u.at_ < x.2.at_ ∧ x.2.at_ ≤ 8 * l.length := by
 have h0 := ((stepF_loc ls ds u).grow l m x ha h).2.1
 refine ⟨?_, h0⟩
 obtain ⟨r, h1, h2⟩ := bnd_inv h
 have h3 := symF_prog h1
 by_cases e : r.1 = 256
 ·rw [if_pos e] at h2
  injection h2 with h2
  subst h2
  exact h3.1
 ·rw [if_neg e] at h2
  obtain ⟨u2, h4, h5⟩ := bnd_inv h2
  injection h5 with h5
  subst h5
  have h6 : r.2.at_ ≤ u2.at_ := by
   by_cases e2 : r.1 < 256
   ·rw [if_pos e2] at h4
    exact ((putF_loc _ _).grow l m u2 h3.2.1 h4).1
   ·rw [if_neg e2] at h4
    exact ((matchF_loc _ _ _).grow l m u2 h3.2.1 h4).1
  exact Nat.lt_of_lt_of_le h3.1 h6
theorem unbF_prog {l : List F} {m : Nat} {u : Un} {x : Bool × Un} (ha : u.at_ ≤ 8 * l.length) (h : unbF l m u = .ok x) : u.at_ < x.2.at_ ∧ x.2.at_ ≤ 8 * l.length := by
 have h0 := ((unbF_loc u).grow l m x ha h).2.1
 refine ⟨?_, h0⟩
 obtain ⟨r, h1, h2⟩ := bnd_inv h
 obtain ⟨h3, rfl⟩ := numF_inv h1
 obtain ⟨k, h4, h5⟩ := bnd_inv h2
 obtain ⟨h6, rfl⟩ := numF_inv h4
 obtain ⟨u2, h7, h8⟩ := bnd_inv h5
 injection h8 with h8
 subst h8
 have h9 : u.at_ + 1 + 2 ≤ u2.at_ := by
  have h6' : u.at_ + 1 + 2 ≤ 8 * l.length := h6
  have h7' := h7
  by_cases e0 : numB l (u.at_ + 1) 2 = 0
  ·rw [if_pos e0] at h7'
   exact ((stoF_loc _).grow l m u2 h6' h7').1
  ·rw [if_neg e0] at h7'
   by_cases e1 : numB l (u.at_ + 1) 2 = 1
   ·rw [if_pos e1] at h7'
    exact ((blockF_loc _ _ _).grow l m u2 h6' h7').1
   ·rw [if_neg e1] at h7'
    by_cases e2 : numB l (u.at_ + 1) 2 = 2
    ·rw [if_pos e2] at h7'
     exact ((dynF_loc _).grow l m u2 h6' h7').1
    ·rw [if_neg e2] at h7'
     cases h7'
 show u.at_ < u2.at_
 omega
theorem unpF_pos {l : List F} {m : Nat} {x : Un} (h : unpF l m = .ok x) : 1 ≤ x.at_ ∧ x.at_ ≤ 8 * l.length ∧ x.out.length ≤ m := by
 obtain ⟨g1, g2, g3, g4⟩ := unpF_loc.grow l m x (Nat.zero_le _) h
 refine ⟨?_, g2, g4 (Nat.zero_le _)⟩
 rcases loopF_inv h with h1 | ⟨u2, h1, h2, h3, h4⟩
 ·exact (unbF_prog (Nat.zero_le _) h1).1
 ·have := ((loopF_loc unbF_loc u2).grow l m x h3 h4).1
  have h2 : 0 < u2.at_ := h2
  have h5 : u2.at_ ≤ x.at_ := this
  omega
end
end Go.Proofs.YtldgdofefcehnaaGreatDoor
