/-
  UNPACKING, WITHOUT ANY PROGRAM: what bytes unpack to, how many bits it takes, the error. No conditions.
-/
import Derived.Test.YtbphbogolffanaaDoorCanG
import Derived.Test.YtbphbogolffanaaDoorSym
namespace Go.Proofs.YtbphbogolffanaaDoor
set_option maxRecDepth 100000
set_option linter.unusedVariables false

/-- what went well, then what comes next; else the error -/
def bnd {α β : Type} : Except Nat α → (α → Except Nat β) → Except Nat β
  | .error e, _ => .error e
  | .ok x, f => f x
@[simp] theorem bnd_ok {α β : Type} (x : α) (f : α → Except Nat β) : bnd (.ok x) f = f x := rfl
@[simp] theorem bnd_error {α β : Type} (e : Nat) (f : α → Except Nat β) : bnd (.error e) f = .error e := rfl
theorem bnd_inv {α β : Type} {p : Except Nat α} {f : α → Except Nat β} {y : β} (h : bnd p f = .ok y) : ∃ x, p = .ok x ∧ f x = .ok y := by
  cases p with
  | error e => cases h
  | ok x => exact ⟨x, rfl, h⟩

/-! ### The next symbol -/
/-- the j-th symbol of a length, or none -/
def nthL (l : List Int) (n : Nat) : Nat → Nat → Nat
  | 0, _ => 0
  | k + 1, j => if gi l k = (n : Int) ∧ cL l n k = j then k else nthL l n k j
theorem nthL_at {l : List Int} {n i k j : Nat} (h1 : gi l i = (n : Int)) (h2 : cL l n i = j) (hi : i < k) : nthL l n k j = i := by
  induction k with
  | zero => omega
  | succ k ih =>
    unfold nthL
    by_cases e : gi l k = (n : Int) ∧ cL l n k = j
    · rw [if_pos e]
      exact cL_inj e.1 h1 (by omega)
    · rw [if_neg e]
      refine ih ?_
      rcases Nat.lt_or_ge i k with h | h
      · exact h
      · obtain rfl : i = k := by omega
        exact absurd ⟨h1, h2⟩ e
/-- from n bits on, at most so many more -/
def rdGo (l : List Int) (b : Nat → Bool) (tot a : Nat) : Nat → Nat → Nat × Nat × Nat
  | 0, n => (0, n, 34)
  | f + 1, n =>
    if tot ≤ a + n then (0, n, 20)
    else if cv b a (n + 1) < fK l l.length (n + 1) + cN l l.length (n + 1) then (nthL l (n + 1) l.length (cv b a (n + 1) - fK l l.length (n + 1)), n + 1, 0)
    else rdGo l b tot a f (n + 1)
/-- the symbol, how many bits, the error -/
def rdF (l : List Int) (b : Nat → Bool) (tot a : Nat) : Nat × Nat × Nat := rdGo l b tot a (mxL l l.length) 0
theorem rdGo_ok {l : List Int} {b : Nat → Bool} {tot a : Nat} (ha : a ≤ tot) : ∀ f n, n + f = mxL l l.length → a + n ≤ tot → (∀ k, 1 ≤ k → k ≤ n → fK l l.length k + cN l l.length k ≤ cv b a k) →
    RdS l b tot a (rdGo l b tot a f n).1 (rdGo l b tot a f n).2.1 (rdGo l b tot a f n).2.2 := by
  intro f
  induction f with
  | zero =>
    intro n h1 h2 h3
    exact ⟨fun k h4 h5 => h3 k h4 (by show k ≤ n; exact Nat.le_of_lt h5), .inr (.inr ⟨rfl, rfl, by show n = _; omega, h2, fun h => h3 n h (Nat.le_refl _)⟩)⟩
  | succ f ih =>
    intro n h1 h2 h3
    unfold rdGo
    by_cases e1 : tot ≤ a + n
    · rw [if_pos e1]
      exact ⟨fun k h4 h5 => h3 k h4 (Nat.le_of_lt h5), .inr (.inl ⟨rfl, rfl, by show n < _; omega, by show a + n = tot; omega, fun h => h3 n h (Nat.le_refl _)⟩)⟩
    · rw [if_neg e1]
      by_cases e2 : cv b a (n + 1) < fK l l.length (n + 1) + cN l l.length (n + 1)
      · rw [if_pos e2]
        have hge : fK l l.length (n + 1) ≤ cv b a (n + 1) := by
          have q1 : fK l l.length (n + 1) = 2 * (fK l l.length n + cN l l.length n) := rfl
          have q2 : cv b a (n + 1) = 2 * cv b a n + (b (a + n)).toNat := rfl
          by_cases h0 : 1 ≤ n
          · have := h3 n h0 (Nat.le_refl _)
            omega
          · obtain rfl : n = 0 := by omega
            have : fK l l.length 0 + cN l l.length 0 = 0 := rfl
            omega
        have hcn : cN l l.length (n + 1) = cL l (n + 1) l.length := if_neg (by omega)
        obtain ⟨i, hi, h4, h5⟩ := cL_at (l := l) (n := n + 1) (k := l.length) (j := cv b a (n + 1) - fK l l.length (n + 1)) (by omega)
        have hs := nthL_at h4 h5 hi
        refine ⟨fun k h6 h7 => h3 k h6 (by have : k < n + 1 := h7; omega), .inl ⟨rfl, Nat.succ_pos _, by show a + (n + 1) ≤ tot; omega, ?_, ?_, ?_⟩⟩
        · show nthL _ _ _ _ < _
          rw [hs]; exact hi
        · show gi l (nthL _ _ _ _) = _
          rw [hs]; exact h4
        · show cv b a (n + 1) = codeN l (nthL _ _ _ _)
          rw [hs]
          unfold codeN
          have h6 : lnN l i = n + 1 := by unfold lnN; omega
          rw [if_neg (by omega), h6, h5]
          omega
      · rw [if_neg e2]
        refine ih (n + 1) (by omega) (by omega) fun k h4 h5 => ?_
        by_cases e : k = n + 1
        · subst e; omega
        · exact h3 k h4 (by omega)
theorem rdF_ok {l : List Int} {b : Nat → Bool} {tot a : Nat} (ha : a ≤ tot) : RdS l b tot a (rdF l b tot a).1 (rdF l b tot a).2.1 (rdF l b tot a).2.2 :=
  rdGo_ok ha _ 0 (by omega) ha fun k h1 h2 => by omega
theorem rdF_eq {l : List Int} {b : Nat → Bool} {tot a s n e : Nat} (hr : RightL l) (hk : kr l l.length ≤ 32768) (ha : a ≤ tot) (h : RdS l b tot a s n e) : rdF l b tot a = (s, n, e) := by
  obtain ⟨h1, h2, h3⟩ := RdS.unique hr hk (rdF_ok ha) h
  rw [← h1, ← h2, ← h3]

/-! ### The parts -/
/-- where an unpacker is, and what came out -/
structure Un where
  at_ : Nat
  out : List F
/-- the number of the next bits -/
def numF (l : List F) (s : Nat) (u : Un) : Except Nat (Nat × Un) :=
  if u.at_ + s ≤ 8 * l.length then .ok (numB l u.at_ s, ⟨u.at_ + s, u.out⟩) else .error 20
/-- the next symbol -/
def symF (l : List F) (c : List Int) (u : Un) : Except Nat (Nat × Un) :=
  if (rdF c (rb l) (8 * l.length) u.at_).2.2 = 0 then .ok ((rdF c (rb l) (8 * l.length) u.at_).1, ⟨u.at_ + (rdF c (rb l) (8 * l.length) u.at_).2.1, u.out⟩) else .error (rdF c (rb l) (8 * l.length) u.at_).2.2
def putF (most : Nat) (x : F) (u : Un) : Except Nat Un := if u.out.length < most then .ok ⟨u.at_, u.out ++ [x]⟩ else .error 6
/-- so many bytes from so far back -/
def agF (most dist : Nat) : Nat → Un → Except Nat Un
  | 0, u => .ok u
  | k + 1, u => bnd (putF most (gt u.out (u.out.length - dist)) u) (agF most dist k)
def againF (most k dist : Nat) (u : Un) : Except Nat Un := if u.out.length < dist then .error 35 else agF most dist k u
/-- what a code means, with its further bits -/
def meantF (l : List F) (b s : Nat) (ok : Bool) (u : Un) : Except Nat (Nat × Un) := if ok = true then bnd (numF l s u) fun r => .ok (b + r.1, r.2) else .error 34
def farF (l : List F) (most d k : Nat) (u : Un) : Except Nat Un := bnd (meantF l (dbI d) (dxI d) (dokI d) u) fun r => againF most k r.1 r.2
def matchF (l : List F) (most : Nat) (ds : List Int) (s : Nat) (u : Un) : Except Nat Un :=
  bnd (meantF l (lbI s) (lxI s) (lokI s) u) fun r => bnd (symF l ds r.2) fun q => farF l most q.1 r.1 q.2
/-- a symbol, and what belongs to it: is it the end? -/
def stepF (l : List F) (most : Nat) (ls ds : List Int) (u : Un) : Except Nat (Bool × Un) :=
  bnd (symF l ls u) fun r =>
    if r.1 = 256 then .ok (true, r.2)
    else bnd (if r.1 < 256 then putF most (ofN r.1) r.2 else matchF l most ds r.1 r.2) fun u2 => .ok (false, u2)
/-- again and again, till it is the end (each round goes on by a bit at least) -/
def loopF (tot : Nat) (f : Un → Except Nat (Bool × Un)) (u : Un) : Except Nat Un :=
  match f u with
  | .error e => .error e
  | .ok (true, u2) => .ok u2
  | .ok (false, u2) => if h : u.at_ < u2.at_ ∧ u2.at_ ≤ tot then loopF tot f u2 else .error 99
termination_by tot - u.at_
theorem loopF_error {tot : Nat} {f : Un → Except Nat (Bool × Un)} {u : Un} {e : Nat} (h : f u = .error e) : loopF tot f u = .error e := by rw [loopF, h]
theorem loopF_done {tot : Nat} {f : Un → Except Nat (Bool × Un)} {u u2 : Un} (h : f u = .ok (true, u2)) : loopF tot f u = .ok u2 := by rw [loopF, h]
theorem loopF_more {tot : Nat} {f : Un → Except Nat (Bool × Un)} {u u2 : Un} (h : f u = .ok (false, u2)) (h1 : u.at_ < u2.at_) (h2 : u2.at_ ≤ tot) : loopF tot f u = loopF tot f u2 := by
  rw [loopF, h]
  exact dif_pos ⟨h1, h2⟩
def codedF (l : List F) (most : Nat) (ls ds : List Int) (u : Un) : Except Nat Un := loopF (8 * l.length) (stepF l most ls ds) u
/-- symbols by codes of these lengths, if there are such -/
def blockF (l : List F) (most : Nat) (ls ds : List Int) (u : Un) : Except Nat Un :=
  if errC ls ls.length ≠ 0 then .error (errC ls ls.length) else if errC ds ds.length ≠ 0 then .error (errC ds ds.length) else codedF l most ls ds u
/-- lengths of literals, of distances, that need no telling -/
def fixL : List Int := List.replicate 144 8 ++ (List.replicate 112 9 ++ (List.replicate 24 7 ++ List.replicate 8 8))
def fixD : List Int := List.replicate 32 5
/-- a length, and how many times -/
def runF (l : List F) (c row : List Int) (u : Un) : Except Nat ((Int × Nat) × Un) :=
  bnd (symF l c u) fun r =>
    if r.1 = 16 then (if row.length = 0 then .error 34 else bnd (numF l 2 r.2) fun q => .ok ((gi row (row.length - 1), 3 + q.1), q.2))
    else if r.1 = 17 then bnd (numF l 3 r.2) fun q => .ok ((0, 3 + q.1), q.2)
    else if r.1 = 18 then bnd (numF l 7 r.2) fun q => .ok ((0, 11 + q.1), q.2)
    else .ok (((r.1 : Nat), 1), r.2)
/-- lengths, up to so many, by at most so many rounds -/
def lensF (l : List F) (c : List Int) (many : Nat) : Nat → List Int → Un → Except Nat (List Int × Un)
  | 0, _, _ => .error 98
  | f + 1, row, u =>
    if many ≤ row.length then .ok (row, u)
    else bnd (runF l c row u) fun r => if many < row.length + r.1.2 then .error 23 else lensF l c many f (row ++ List.replicate r.1.2 r.1.1) r.2
def ordN : List Nat := [16, 17, 18, 0, 8, 7, 9, 6, 10, 5, 11, 4, 12, 3, 13, 2, 14, 1, 15]
/-- the lengths' own lengths -/
def ownF (l : List F) : List Nat → List Int → Un → Except Nat (List Int × Un)
  | [], own, u => .ok (own, u)
  | s :: r, own, u => bnd (numF l 3 u) fun q => ownF l r (own.set s (q.1 : Int)) q.2
/-- a block's own lengths, of literals, of distances -/
def dynHF (l : List F) (u : Un) : Except Nat ((List Int × List Int) × Un) :=
  bnd (numF l 5 u) fun m => bnd (numF l 5 m.2) fun d => bnd (numF l 4 d.2) fun k =>
    if 286 < m.1 + 257 ∨ 30 < d.1 + 1 then .error 23
    else bnd (ownF l (ordN.take (k.1 + 4)) (List.replicate 19 0) k.2) fun o =>
      if errC o.1 o.1.length ≠ 0 then .error (errC o.1 o.1.length)
      else bnd (lensF l o.1 (m.1 + 257 + (d.1 + 1)) (m.1 + 257 + (d.1 + 1) + 1) [] o.2) fun a =>
        if gi a.1 256 = 0 then .error 21 else .ok ((a.1.take (m.1 + 257), a.1.drop (m.1 + 257)), a.2)
def dynF (l : List F) (most : Nat) (u : Un) : Except Nat Un := bnd (dynHF l u) fun h => blockF l most h.1.1 h.1.2 h.2
/-- two bytes' number -/
def le2 (l : List F) (a : Nat) : Nat := (gt l a).n + 256 * (gt l (a + 1)).n
def stoF (l : List F) (most : Nat) (u : Un) : Except Nat Un :=
  if l.length < (u.at_ + 7) / 8 + 4 then .error 20
  else if le2 l ((u.at_ + 7) / 8 + 2) ≠ 65535 - le2 l ((u.at_ + 7) / 8) then .error 33
  else if most < u.out.length + le2 l ((u.at_ + 7) / 8) then (if l.length < (u.at_ + 7) / 8 + 4 + (most - u.out.length + 1) then .error 20 else .error 6)
  else if l.length < (u.at_ + 7) / 8 + 4 + le2 l ((u.at_ + 7) / 8) then .error 20
  else .ok ⟨8 * ((u.at_ + 7) / 8 + 4 + le2 l ((u.at_ + 7) / 8)), u.out ++ (l.drop ((u.at_ + 7) / 8 + 4)).take (le2 l ((u.at_ + 7) / 8))⟩
/-- a block: is it the last one? -/
def unbF (l : List F) (most : Nat) (u : Un) : Except Nat (Bool × Un) :=
  bnd (numF l 1 u) fun x => bnd (numF l 2 x.2) fun k =>
    bnd (if k.1 = 0 then stoF l most k.2 else if k.1 = 1 then blockF l most fixL fixD k.2 else if k.1 = 2 then dynF l most k.2 else .error 32) fun u2 => .ok (decide (x.1 ≠ 0), u2)
def unpF (l : List F) (most : Nat) : Except Nat Un := loopF (8 * l.length) (unbF l most) ⟨0, []⟩
end Go.Proofs.YtbphbogolffanaaDoor
