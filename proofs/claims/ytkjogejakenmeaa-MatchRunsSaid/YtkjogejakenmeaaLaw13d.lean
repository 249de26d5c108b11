/-
  LAW 13: a row of one byte, again and again, has few tokens: the mathematics. No conditions.
-/
import Derived.Test.YtkjogejakenmeaaLaw13b
namespace Go.Proofs.Ytkjogejakenmeaa
open Go.RowKit
set_option maxRecDepth 1000000
set_option linter.unusedVariables false

theorem gt_rep {c : F} {n i : Nat} (h : i < n) : gt (List.replicate n c) i = c := by
  rw [gt_lt (by simpa using h)]
  simp
theorem smF_rep {c : F} {n a : Nat} (h1 : 1 ≤ a) (h2 : a ≤ n) : smF (List.replicate n c) a (a - 1) = min (n - a) 258 :=
  (smF_is _ a (a - 1)).unique ⟨by omega, by right; rw [List.length_replicate]; omega, fun j hj => by rw [gt_rep (by omega), gt_rep (by omega)], by
    rw [List.length_replicate]
    by_cases h3 : 258 ≤ n - a
    · left; omega
    · right; intro h4; omega⟩
/-- the chain of three such bytes -/
def chC (c : F) : Nat := (c.n + 256 * c.n + 65536 * c.n) * 2654435761 % 4294967296 / 131072
theorem chF_rep {c : F} {n a : Nat} : chF (List.replicate n c) a = if n < a + 3 then none else some (chC c) := by
  unfold chF
  rw [List.length_replicate]
  split
  · rfl
  · rw [gt_rep (by omega), gt_rep (by omega), gt_rep (by omega)]; rfl
def RunJ (c : F) (n : Nat) (s : Fs) : Prop := 1 ≤ s.at_ ∧ (s.at_ + 2 ≤ n → s.hd (chC c) = s.at_)
theorem RunJ.ps1 {c : F} {n : Nat} (s : Fs) : RunJ c n (ps1 (List.replicate n c) s) := by
  unfold Proofs.Ytkjogejakenmeaa.ps1
  rw [chF_rep]
  split
  · rename_i h
    split at h
    · exact ⟨by show 1 ≤ s.at_ + 1; omega, fun h2 => absurd h2 (by show ¬ (s.at_ + 1 + 2 ≤ n); omega)⟩
    · cases h
  · rename_i x h
    split at h
    · cases h
    · injection h with h
      subst h
      exact ⟨by show 1 ≤ s.at_ + 1; omega, fun _ => by show (if chC c = chC c then s.at_ + 1 else _) = s.at_ + 1; rw [if_pos rfl]⟩
theorem RunJ.psF {c : F} {n : Nat} : ∀ (k : Nat) {s : Fs}, RunJ c n s → RunJ c n (psF (List.replicate n c) k s) := by
  intro k
  induction k with
  | zero => intro s h; exact h
  | succ k ih => intro s h; exact ih (RunJ.ps1 s)
theorem lgGo_most {l : List F} {lk : Nat → Nat} {a most k p : Nat} {t : Nat × Nat} (h : t.1 = most) : lgGo l lk a most k p t = t := by
  cases k with
  | zero => rfl
  | succ k => unfold lgGo; rw [if_pos (.inr (.inr h))]
theorem lgF_rep {c : F} {n lev : Nat} (hl : 1 ≤ lev) {s : Fs} (h : RunJ c n s) : lgF (List.replicate n c) lev s = if n < s.at_ + 3 then (0, 0) else (min (n - s.at_) 258, 1) := by
  unfold lgF
  rw [chF_rep]
  by_cases h1 : n < s.at_ + 3
  · rw [if_pos h1, if_pos h1]
  · rw [if_neg h1, if_neg h1]
    show lgGo _ _ _ _ (lookF lev) (s.hd (chC c)) (0, 0) = _
    have h2 := h.1
    rw [h.2 (by omega), List.length_replicate]
    obtain ⟨k, hk⟩ : ∃ k, lookF lev = k + 1 := ⟨lookF lev - 1, by
      unfold lookF
      rw [if_neg (by omega)]
      have := Nat.pow_pos (n := lev - 1) (show 0 < 2 by decide)
      omega⟩
    rw [hk]
    unfold lgGo
    rw [if_neg (by show ¬ (s.at_ = 0 ∨ 32768 + s.at_ < s.at_ + 1 ∨ 0 = min (n - s.at_) 258); omega)]
    have e : lgStep (List.replicate n c) s.at_ (s.at_ - 1) (0, 0) = (min (n - s.at_) 258, 1) := by
      unfold lgStep
      rw [if_pos (by show gt _ (s.at_ - 1 + 0) = gt _ (s.at_ + 0); rw [gt_rep (by omega), gt_rep (by omega)]), smF_rep h2 (by omega), if_pos (by show 3 ≤ _ ∧ 0 < _; omega)]
      show (_, s.at_ - (s.at_ - 1)) = _
      rw [show s.at_ - (s.at_ - 1) = 1 by omega]
    rw [e]
    exact lgGo_most rfl
theorem run_go {c : F} {n lev : Nat} (hl : 1 ≤ lev) : ∀ (f : Nat) {s : Fs} {ts : List Tok}, s.at_ ≤ n → RunJ c n s →
    (fdGo (List.replicate n c) lev f s (lgF (List.replicate n c) lev s) ts).length ≤ ts.length + (n - s.at_) / 258 + min ((n - s.at_) % 258) 2 := by
  intro f
  induction f with
  | zero => intro s ts _ _; show ts.length ≤ _; omega
  | succ f ih =>
    intro s ts hs h
    unfold fdGo
    rw [List.length_replicate]
    by_cases hlt : s.at_ < n
    · rw [if_pos hlt]
      have h1 := ps1_at (List.replicate n c) s
      have h2 := lgF_rep hl h
      have h3 := lgF_rep hl (RunJ.ps1 (c := c) (n := n) s)
      by_cases h0 : n < s.at_ + 3
      · rw [if_pos h0] at h2
        rw [h2, if_pos (.inl rfl)]
        refine Nat.le_trans (ih (by omega) (RunJ.ps1 s)) ?_
        rw [List.length_append, List.length_singleton, h1]
        omega
      · rw [if_neg h0] at h2
        have h4 : ¬ ((lgF (List.replicate n c) lev s).1 = 0 ∨ (lgF (List.replicate n c) lev s).1 < (lgF (List.replicate n c) lev (ps1 (List.replicate n c) s)).1) := by
          rw [h2, h3, h1]
          show ¬ (min (n - s.at_) 258 = 0 ∨ min (n - s.at_) 258 < _)
          split
          · show ¬ (_ ∨ _ < 0); omega
          · show ¬ (_ ∨ _ < min (n - (s.at_ + 1)) 258); omega
        rw [if_neg h4, h2]
        have h5 := psF_at (List.replicate n c) (min (n - s.at_) 258 - 1) (ps1 (List.replicate n c) s)
        rw [h1] at h5
        refine Nat.le_trans (ih (by show (psF _ (min (n - s.at_) 258 - 1) _).at_ ≤ n; omega) (RunJ.psF _ (RunJ.ps1 s))) ?_
        show _ + (n - (psF _ (min (n - s.at_) 258 - 1) _).at_) / 258 + _ ≤ _
        rw [List.length_append, List.length_singleton]
        show _ + _ + min ((n - (psF _ (min (n - s.at_) 258 - 1) _).at_) % 258) 2 ≤ _
        rw [h5]
        omega
    · rw [if_neg hlt]; omega
/-- few tokens -/
theorem run_few (c : F) (n : Nat) {lev : Nat} (hl : 1 ≤ lev) : (fdF (List.replicate n c) lev).length ≤ 4 + n / 258 := by
  unfold fdF
  have h0 : lgF (List.replicate n c) lev fs0 = (0, 0) := by
    unfold lgF
    rw [chF_rep]
    by_cases h : n < fs0.at_ + 3
    · rw [if_pos h]
    · rw [if_neg h]
      show lgGo _ _ _ _ (lookF lev) 0 (0, 0) = _
      cases lookF lev with
      | zero => rfl
      | succ k => unfold lgGo; rw [if_pos (.inl rfl)]
  rw [h0, List.length_replicate]
  cases n with
  | zero => show 0 ≤ _; omega
  | succ m =>
    unfold fdGo
    rw [if_pos (by rw [List.length_replicate]; show 0 < _; omega), if_pos (.inl rfl)]
    have h1 := ps1_at (List.replicate (m + 1) c) fs0
    have h2 : fs0.at_ = 0 := rfl
    refine Nat.le_trans (run_go hl m (by omega) (RunJ.ps1 fs0)) ?_
    rw [h1, h2]
    simp only [List.length_append, List.length_singleton, List.length_nil]
    omega
end Go.Proofs.Ytkjogejakenmeaa
