/-
  TOKENS, WITHOUT ANY PROGRAM: what bytes they are, and how they are found. No conditions.
-/
import Derived.Test.YtldgdofefcehnaaGreatDoorBase
namespace Go.Proofs.YtldgdofefcehnaaGreatDoor
set_option maxRecDepth 100000
set_option linter.unusedVariables false
def bndL {α β : Type} : Except Nat α → (α → Except Nat β) → Except Nat β
 | .error e, _ => .error e
 | .ok x, f => f x
@[simp] theorem bndL_ok {α β : Type} (x : α) (f : α → Except Nat β) : bndL (.ok x) f = f x := rfl
@[simp] theorem bndL_error {α β : Type} (e : Nat) (f : α → Except Nat β) : bndL (.error e) f = .error e := rfl
structure Tok where
 lit : F
 len : Int
 dist : Int
def IsM (t : Tok) : Prop := 3 ≤ t.len ∧ t.len ≤ 258 ∧ 1 ≤ t.dist ∧ t.dist ≤ 32768
instance (t : Tok) : Decidable (IsM t) := by unfold IsM; exact inferInstance
def TokOk (t : Tok) : Prop := t.len = 0 ∨ IsM t
instance (t : Tok) : Decidable (TokOk t) := by unfold TokOk; exact inferInstance
def agL (M d : Nat) : Nat → List F → Except Nat (List F)
 | 0, o => .ok o
 | k + 1, o => if o.length < M then agL M d k (o ++ [gt o (o.length - d)]) else .error 6
def cpL (d : Nat) : Nat → List F → List F
 | 0, o => o
 | k + 1, o => cpL d k (o ++ [gt o (o.length - d)])
theorem cpL_length (d k : Nat) : ∀ o, (cpL d k o).length = o.length + k := by
 induction k with
 | zero => intro o; rfl
 | succ k ih => intro o; unfold cpL; rw [ih, List.length_append, List.length_singleton]; omega
theorem agL_eq (M d k : Nat) : ∀ o : List F, agL M d k o = if o.length + k ≤ M ∨ k = 0 then .ok (cpL d k o) else .error 6 := by
 induction k with
 | zero => intro o; rw [if_pos (.inr rfl)]; rfl
 | succ k ih =>
  intro o
  unfold agL
  by_cases h : o.length < M
  ·rw [if_pos h, ih, List.length_append, List.length_singleton]
   by_cases h2 : o.length + (k + 1) ≤ M
   ·rw [if_pos (.inl (by omega)), if_pos (.inl h2)]; rfl
   ·by_cases h3 : k = 0
    ·subst h3; omega
    ·rw [if_neg (by omega), if_neg (by omega)]
  ·rw [if_neg h, if_neg (by omega)]
def tkF (M : Nat) (t : Tok) (o : List F) : Except Nat (List F) :=
 if t.len = 0 then (if o.length < M then .ok (o ++ [t.lit]) else .error 6)
 else if IsM t then (if o.length < t.dist.toNat then .error 35 else agL M t.dist.toNat t.len.toNat o)
 else .error 23
def exF (M : Nat) : List Tok → List F → Except Nat (List F)
 | [], o => .ok o
 | t :: r, o => bndL (tkF M t o) (exF M r)
theorem exF_append (M : Nat) : ∀ (a b : List Tok) (o : List F), exF M (a ++ b) o = bndL (exF M a o) (exF M b) := by
 intro a
 induction a with
 | nil => intro b o; rfl
 | cons t r ih =>
  intro b o
  show bndL (tkF M t o) (exF M (r ++ b)) = bndL (bndL (tkF M t o) (exF M r)) (exF M b)
  cases tkF M t o with
  | error e => rfl
  | ok o2 => exact ih b o2
theorem exF_snoc (M : Nat) (a : List Tok) (t : Tok) (o : List F) : exF M (a ++ [t]) o = bndL (exF M a o) (tkF M t) := by
 rw [exF_append]
 cases exF M a o with
 | error e => rfl
 | ok o2 =>
  show bndL (tkF M t o2) (exF M []) = tkF M t o2
  cases tkF M t o2 <;> rfl
def szF (t : Tok) : Nat := if t.len = 0 then 1 else min t.len.toNat 258
theorem szF_le (t : Tok) : szF t ≤ 258 := by unfold szF; split <;> omega
def bysF : List Tok → Nat
 | [] => 0
 | t :: r => szF t + bysF r
theorem bysF_append (a b : List Tok) : bysF (a ++ b) = bysF a + bysF b := by
 induction a with
 | nil => simp [bysF]
 | cons t r ih => simp [bysF, ih]; omega
theorem tkF_ok {M : Nat} {t : Tok} {o o2 : List F} (h : tkF M t o = .ok o2) : TokOk t ∧ o2.length = o.length + szF t ∧ o2.length ≤ M := by
 unfold tkF at h
 by_cases h1 : t.len = 0
 ·rw [if_pos h1] at h
  by_cases h2 : o.length < M
  ·rw [if_pos h2] at h
   injection h with h
   subst h
   refine ⟨.inl h1, ?_, ?_⟩
   ·unfold szF; rw [if_pos h1]; simp
   ·simp; omega
  ·rw [if_neg h2] at h; cases h
 ·rw [if_neg h1] at h
  by_cases h2 : IsM t
  ·rw [if_pos h2] at h
   by_cases h3 : o.length < t.dist.toNat
   ·rw [if_pos h3] at h; cases h
   ·rw [if_neg h3, agL_eq] at h
    have h4 : szF t = t.len.toNat := by unfold szF; rw [if_neg h1]; unfold IsM at h2; omega
    have h5 : t.len.toNat ≠ 0 := by unfold IsM at h2; omega
    by_cases h6 : o.length + t.len.toNat ≤ M ∨ t.len.toNat = 0
    ·rw [if_pos h6] at h
     injection h with h
     subst h
     rw [cpL_length, h4]
     exact ⟨.inr h2, rfl, by omega⟩
    ·rw [if_neg h6] at h; cases h
  ·rw [if_neg h2] at h; cases h
theorem exF_len {M : Nat} : ∀ {T : List Tok} {o o2 : List F}, exF M T o = .ok o2 → o2.length = o.length + bysF T ∧ (∀ t ∈ T, TokOk t) := by
 intro T
 induction T with
 | nil => intro o o2 h; injection h with h; subst h; exact ⟨rfl, fun t ht => by cases ht⟩
 | cons t r ih =>
  intro o o2 h
  change bndL (tkF M t o) (exF M r) = _ at h
  cases h1 : tkF M t o with
  | error e => rw [h1] at h; cases h
  | ok o3 =>
   rw [h1] at h
   obtain ⟨h2, h3⟩ := ih h
   obtain ⟨h4, h5, _⟩ := tkF_ok h1
   refine ⟨by rw [h2, h5]; show _ = _ + (szF t + bysF r); omega, fun x hx => ?_⟩
   rcases List.mem_cons.1 hx with rfl | hx
   ·exact h4
   ·exact h3 x hx
def smGo (l : List F) (i k : Nat) : Nat → Nat → Nat
 | 0, n => n
 | f + 1, n => if i + n < l.length ∧ k + n < l.length ∧ gt l (i + n) = gt l (k + n) then smGo l i k f (n + 1) else n
def smF (l : List F) (i k : Nat) : Nat := smGo l i k 258 0
structure SmIs (l : List F) (i k n : Nat) : Prop where
 le : n ≤ 258
 ins : n = 0 ∨ i + n ≤ l.length ∧ k + n ≤ l.length
 same : ∀ j, j < n → gt l (i + j) = gt l (k + j)
 last : n = 258 ∨ ¬ (i + n < l.length ∧ k + n < l.length ∧ gt l (i + n) = gt l (k + n))
theorem SmIs.unique {l : List F} {i k n m : Nat} (h : SmIs l i k n) (g : SmIs l i k m) : n = m := by
 rcases Nat.lt_trichotomy n m with h1 | h1 | h1
 ·exfalso
  have h2 := g.same n h1
  have h3 := g.ins
  have h4 := g.le
  rcases h.last with h5 | h5
  ·omega
  ·exact h5 ⟨by omega, by omega, h2⟩
 ·exact h1
 ·exfalso
  have h2 := h.same m h1
  have h3 := h.ins
  have h4 := h.le
  rcases g.last with h5 | h5
  ·omega
  ·exact h5 ⟨by omega, by omega, h2⟩
theorem smGo_is {l : List F} {i k : Nat} : ∀ f n, n + f = 258 → (n = 0 ∨ i + n ≤ l.length ∧ k + n ≤ l.length) → (∀ j, j < n → gt l (i + j) = gt l (k + j)) → SmIs l i k (smGo l i k f n) := by
 intro f
 induction f with
 | zero => intro n h1 h2 h3; exact ⟨by show n ≤ 258; omega, h2, h3, .inl (by show n = 258; omega)⟩
 | succ f ih =>
  intro n h1 h2 h3
  unfold smGo
  by_cases e : i + n < l.length ∧ k + n < l.length ∧ gt l (i + n) = gt l (k + n)
  ·rw [if_pos e]
   refine ih (n + 1) (by omega) (.inr (by omega)) fun j hj => ?_
   rcases Nat.lt_or_ge j n with h | h
   ·exact h3 j h
   ·obtain rfl : j = n := by omega
    exact e.2.2
  ·rw [if_neg e]
   exact ⟨by omega, h2, h3, .inr e⟩
theorem smF_is (l : List F) (i k : Nat) : SmIs l i k (smF l i k) := smGo_is 258 0 rfl (.inl rfl) fun j hj => by omega
theorem smF_out {l : List F} {i k : Nat} (h : l.length ≤ i ∨ l.length ≤ k) : smF l i k = 0 :=
 (smF_is l i k).unique ⟨by omega, .inl rfl, fun j hj => by omega, .inr fun h2 => by omega⟩
def chF (l : List F) (a : Nat) : Option Nat := if l.length < a + 3 then none else some (((gt l a).n + 256 * (gt l (a + 1)).n + 65536 * (gt l (a + 2)).n) * 2654435761 % 4294967296 / 131072)
theorem chF_lt {l : List F} {a c : Nat} (h : chF l a = some c) : c < 32768 ∧ a + 3 ≤ l.length := by
 unfold chF at h
 by_cases e : l.length < a + 3
 ·rw [if_pos e] at h; cases h
 ·rw [if_neg e] at h; injection h with h; omega
structure Fs where
 at_ : Nat
 hd : Nat → Nat
 lk : Nat → Nat
def ps1 (l : List F) (s : Fs) : Fs := match chF l s.at_ with
 | none => ⟨s.at_ + 1, s.hd, s.lk⟩
 | some c => ⟨s.at_ + 1, fun x => if x = c then s.at_ + 1 else s.hd x, fun x => if x = s.at_ then s.hd c else s.lk x⟩
def psF (l : List F) : Nat → Fs → Fs
 | 0, s => s
 | k + 1, s => psF l k (ps1 l s)
theorem ps1_at (l : List F) (s : Fs) : (ps1 l s).at_ = s.at_ + 1 := by unfold ps1; cases chF l s.at_ <;> rfl
theorem psF_at (l : List F) (k : Nat) : ∀ s, (psF l k s).at_ = s.at_ + k := by
 induction k with
 | zero => intro s; rfl
 | succ k ih => intro s; unfold psF; rw [ih, ps1_at]; omega
structure FsOk (s : Fs) : Prop where
 hd : ∀ c, s.hd c ≤ s.at_
 lk : ∀ i, s.lk i ≤ i
theorem FsOk.next {l : List F} {s : Fs} (h : FsOk s) : FsOk (ps1 l s) := by
 unfold ps1
 cases chF l s.at_ with
 | none => exact ⟨fun c => Nat.le_succ_of_le (h.hd c), h.lk⟩
 | some c => exact ⟨fun x => by
   show (if x = c then s.at_ + 1 else s.hd x) ≤ s.at_ + 1
   split
   ·omega
   ·exact Nat.le_succ_of_le (h.hd x), fun i => by
   show (if i = s.at_ then s.hd c else s.lk i) ≤ i
   split
   ·rename_i e; rw [e]; exact h.hd c
   ·exact h.lk i⟩
theorem FsOk.pass {l : List F} (k : Nat) : ∀ {s : Fs}, FsOk s → FsOk (psF l k s) := by
 induction k with
 | zero => intro s h; exact h
 | succ k ih => intro s h; exact ih h.next
def lookF (lev : Nat) : Nat := if lev = 0 then 0 else 4 * 2 ^ (lev - 1)
def lgStep (l : List F) (a p : Nat) (t : Nat × Nat) : Nat × Nat :=
 if gt l (p + t.1) = gt l (a + t.1) then (if 3 ≤ smF l a p ∧ t.1 < smF l a p then (smF l a p, a - p) else t) else t
def lgGo (l : List F) (lk : Nat → Nat) (a most : Nat) : Nat → Nat → Nat × Nat → Nat × Nat
 | 0, _, t => t
 | k + 1, p, t => if p = 0 ∨ 32768 + p < a + 1 ∨ t.1 = most then t else lgGo l lk a most k (lk (p - 1)) (lgStep l a (p - 1) t)
def lgF (l : List F) (lev : Nat) (s : Fs) : Nat × Nat := match chF l s.at_ with
 | none => (0, 0)
 | some c => lgGo l s.lk s.at_ (min (l.length - s.at_) 258) (lookF lev) (s.hd c) (0, 0)
structure MtOk (l : List F) (a : Nat) (t : Nat × Nat) : Prop where
 le : t.1 ≤ 258 ∧ a + t.1 ≤ l.length
 is : t.1 ≠ 0 → 3 ≤ t.1 ∧ 1 ≤ t.2 ∧ t.2 ≤ 32768 ∧ t.2 ≤ a ∧ ∀ j, j < t.1 → gt l (a + j) = gt l (a - t.2 + j)
theorem lgStep_ok {l : List F} {a p : Nat} {t : Nat × Nat} (h : MtOk l a t) (hp : p < a) (hd : a - p ≤ 32768) : MtOk l a (lgStep l a p t) := by
 unfold lgStep
 split
 ·split
  ·rename_i h1 h2
   have hs := smF_is l a p
   refine ⟨⟨hs.le, by have := hs.ins; omega⟩, fun _ => ⟨h2.1, by show 1 ≤ a - p; omega, hd, by show a - p ≤ a; omega, fun j hj => ?_⟩⟩
   rw [show a - (a - p) + j = p + j by omega]
   exact hs.same j hj
  ·exact h
 ·exact h
theorem lgGo_ok {l : List F} {s : Fs} (hs : FsOk s) {most : Nat} : ∀ (k p : Nat) (t : Nat × Nat), p ≤ s.at_ → MtOk l s.at_ t → MtOk l s.at_ (lgGo l s.lk s.at_ most k p t) := by
 intro k
 induction k with
 | zero => intro p t _ h; exact h
 | succ k ih =>
  intro p t hp h
  unfold lgGo
  split
  ·exact h
  ·rename_i h1
   exact ih _ _ (by have := hs.lk (p - 1); omega) (lgStep_ok h (by omega) (by omega))
theorem lgF_ok {l : List F} {s : Fs} (hs : FsOk s) (ha : s.at_ ≤ l.length) (lev : Nat) : MtOk l s.at_ (lgF l lev s) := by
 unfold lgF
 cases chF l s.at_ with
 | none => exact ⟨⟨by show 0 ≤ 258; omega, ha⟩, fun h => absurd rfl h⟩
 | some c => exact lgGo_ok hs _ _ _ (hs.hd c) ⟨⟨by show 0 ≤ 258; omega, ha⟩, fun h => absurd rfl h⟩
def lone (l : List F) (a : Nat) : Tok := ⟨gt l a, 0, 0⟩
def mtch (t : Nat × Nat) : Tok := ⟨0, (t.1 : Int), (t.2 : Int)⟩
def fdGo (l : List F) (lev : Nat) : Nat → Fs → Nat × Nat → List Tok → List Tok
 | 0, _, _, ts => ts
 | f + 1, s, t, ts =>
  if s.at_ < l.length then
   (if t.1 = 0 ∨ t.1 < (lgF l lev (ps1 l s)).1 then fdGo l lev f (ps1 l s) (lgF l lev (ps1 l s)) (ts ++ [lone l s.at_])
    else fdGo l lev f (psF l (t.1 - 1) (ps1 l s)) (lgF l lev (psF l (t.1 - 1) (ps1 l s))) (ts ++ [mtch t]))
  else ts
def fs0 : Fs := ⟨0, fun _ => 0, fun _ => 0⟩
def fdF (l : List F) (lev : Nat) : List Tok := fdGo l lev l.length fs0 (lgF l lev fs0) []
theorem fs0_ok : FsOk fs0 := ⟨fun _ => Nat.le_refl _, fun _ => Nat.zero_le _⟩
theorem cp_take {l : List F} {a d : Nat} (hd : 1 ≤ d) (hda : d ≤ a) : ∀ (k b : Nat), a ≤ b → b + k ≤ l.length → (∀ j, j < b + k - a → gt l (a + j) = gt l (a - d + j)) → cpL d k (l.take b) = l.take (b + k) := by
 intro k
 induction k with
 | zero => intro b _ _ _; rfl
 | succ k ih =>
  intro b hab hb hs
  unfold cpL
  have h1 := hs (b - a) (by omega)
  rw [show a + (b - a) = b by omega] at h1
  have h2 : l.take b ++ [gt (l.take b) ((l.take b).length - d)] = l.take (b + 1) := by
   rw [take_succ_gt (by omega : b < l.length), h1, List.length_take, gt_take, if_pos (by omega), show min b l.length - d = a - d + (b - a) by omega]
  rw [h2, ih (b + 1) (by omega) (by omega) (fun j hj => hs j (by omega)), show b + 1 + k = b + (k + 1) by omega]
structure FdOk (l : List F) (s : Fs) (t : Nat × Nat) (ts : List Tok) : Prop where
 ok : FsOk s
 le : s.at_ ≤ l.length
 mt : MtOk l s.at_ t
 ex : exF l.length ts [] = .ok (l.take s.at_)
 few : ts.length ≤ s.at_
theorem FdOk.lone {l : List F} {lev : Nat} {s : Fs} {t : Nat × Nat} {ts : List Tok} (h : FdOk l s t ts) (hlt : s.at_ < l.length) : FdOk l (ps1 l s) (lgF l lev (ps1 l s)) (ts ++ [lone l s.at_]) := by
 have h1 := h.ok.next (l := l)
 have h2 := ps1_at l s
 refine ⟨h1, by omega, lgF_ok h1 (by omega) lev, ?_, ?_⟩
 ·rw [exF_snoc, h.ex, bndL_ok]
  unfold tkF Proofs.YtldgdofefcehnaaGreatDoor.lone
  rw [if_pos rfl, if_pos (by rw [List.length_take]; omega), h2, take_succ_gt hlt]
 ·rw [List.length_append, List.length_singleton, h2]; have := h.few; omega
theorem FdOk.match_ {l : List F} {lev : Nat} {s : Fs} {t : Nat × Nat} {ts : List Tok} (h : FdOk l s t ts) (h0 : t.1 ≠ 0) : FdOk l (psF l (t.1 - 1) (ps1 l s)) (lgF l lev (psF l (t.1 - 1) (ps1 l s))) (ts ++ [mtch t]) ∧ (psF l (t.1 - 1) (ps1 l s)).at_ = s.at_ + t.1 := by
 obtain ⟨h3, h4, h5, h6, h7⟩ := h.mt.is h0
 obtain ⟨h8, h9⟩ := h.mt.le
 have h1 := FsOk.pass (l := l) (t.1 - 1) (h.ok.next (l := l))
 have h2 : (psF l (t.1 - 1) (ps1 l s)).at_ = s.at_ + t.1 := by rw [psF_at, ps1_at]; omega
 refine ⟨⟨h1, by omega, lgF_ok h1 (by omega) lev, ?_, ?_⟩, h2⟩
 ·rw [exF_snoc, h.ex, bndL_ok]
  have hne : ¬ (mtch t).len = 0 := by show ¬ (t.1 : Int) = 0; omega
  have hm : IsM (mtch t) := ⟨by show (3 : Int) ≤ t.1; omega, by show (t.1 : Int) ≤ 258; omega, by show (1 : Int) ≤ t.2; omega, by show (t.2 : Int) ≤ 32768; omega⟩
  unfold tkF
  rw [if_neg hne, if_pos hm, show (mtch t).dist.toNat = t.2 from rfl, show (mtch t).len.toNat = t.1 from rfl, if_neg (by rw [List.length_take]; omega), agL_eq, if_pos (.inl (by rw [List.length_take]; omega)), cp_take h4 h6 t.1 s.at_ (Nat.le_refl _) (by omega) (fun j hj => h7 j (by omega)), h2]
 ·rw [List.length_append, List.length_singleton, h2]; have := h.few; omega
theorem fdGo_ok {l : List F} {lev : Nat} : ∀ (f : Nat) {s : Fs} {t : Nat × Nat} {ts : List Tok}, l.length ≤ s.at_ + f → FdOk l s t ts → exF l.length (fdGo l lev f s t ts) [] = .ok l ∧ (fdGo l lev f s t ts).length ≤ l.length := by
 intro f
 induction f with
 | zero =>
  intro s t ts hf h
  have h1 : s.at_ = l.length := by have := h.le; omega
  have h2 := h.ex
  rw [h1, List.take_length] at h2
  exact ⟨h2, by have := h.few; show ts.length ≤ _; omega⟩
 | succ f ih =>
  intro s t ts hf h
  unfold fdGo
  by_cases hlt : s.at_ < l.length
  ·rw [if_pos hlt]
   have h1 := ps1_at l s
   by_cases h0 : t.1 = 0 ∨ t.1 < (lgF l lev (ps1 l s)).1
   ·rw [if_pos h0]
    exact ih (by omega) (h.lone hlt)
   ·rw [if_neg h0]
    obtain ⟨h2, h3⟩ := h.match_ (lev := lev) (by omega)
    exact ih (by omega) h2
  ·rw [if_neg hlt]
   have h1 : s.at_ = l.length := by have := h.le; omega
   have h2 := h.ex
   rw [h1, List.take_length] at h2
   exact ⟨h2, by have := h.few; omega⟩
theorem fd0_ok (l : List F) (lev : Nat) : FdOk l fs0 (lgF l lev fs0) [] := ⟨fs0_ok, Nat.zero_le _, lgF_ok fs0_ok (Nat.zero_le _) lev, rfl, Nat.le_refl _⟩
theorem fdF_ok (l : List F) (lev : Nat) : exF l.length (fdF l lev) [] = .ok l ∧ (fdF l lev).length ≤ l.length := fdGo_ok l.length (by show _ ≤ 0 + _; omega) (fd0_ok l lev)
end Go.Proofs.YtldgdofefcehnaaGreatDoor
