/-
  THE CONTRACTS OF match's isMatch, expand, Expand. No conditions.
-/
import Derived.Test.YtkjogejakenmeaaMcl
namespace Go.Proofs.Ytkjogejakenmeaa
open Go.RowKit
set_option maxRecDepth 1000000
set_option linter.unusedVariables false

theorem belT {w w' : World} {o : Obj} (b : Below (w.alloc o).heap.size (w.alloc o) w') : Below w.heap.size w w' := ((Below.refl w.heap.size w).alloc (Nat.le_refl _) o).trans (b.mono (by simp))
theorem isMatch_c (t : Tok) (w : World) : Calls Try.prog 20 #[tkV t] w fun e w' => e = .returned (.bool (decide (IsM t))) ∧ Below w.heap.size w w' := by
  obtain ⟨x, len, dist⟩ := t
  have hcs : (len < 3) ∨ (3 ≤ len ∧ 258 < len) ∨ (3 ≤ len ∧ len ≤ 258 ∧ dist < 1) ∨ (3 ≤ len ∧ len ≤ 258 ∧ 1 ≤ dist ∧ 32768 < dist) ∨ (3 ≤ len ∧ len ≤ 258 ∧ 1 ≤ dist ∧ dist ≤ 32768) := by omega
  unfold tkV
  dsimp only
  rcases hcs with g1 | ⟨g1, g2⟩ | ⟨g1, g2, g3⟩ | ⟨g1, g2, g3, g4⟩ | ⟨g1, g2, g3, g4⟩
  · have hE : Hid (decide (IsM ⟨x, len, dist⟩) = false) := decide_eq_false fun h => by have := h.1; dsimp only at this; omega
    have b1 : ¬ 3 ≤ len := by omega
    go_enter Try.func20, Try.ntmps20
    go_wp2
    go_ret
    rw [hE.out]
    exact ⟨rfl, (Below.refl _ _).alloc (Nat.le_refl _) _⟩
  · have hE : Hid (decide (IsM ⟨x, len, dist⟩) = false) := decide_eq_false fun h => by have := h.2.1; dsimp only at this; omega
    have b2 : ¬ len ≤ 258 := by omega
    go_enter Try.func20, Try.ntmps20
    go_wp2
    go_ret
    rw [hE.out]
    exact ⟨rfl, (Below.refl _ _).alloc (Nat.le_refl _) _⟩
  · have hE : Hid (decide (IsM ⟨x, len, dist⟩) = false) := decide_eq_false fun h => by have := h.2.2.1; dsimp only at this; omega
    have b3 : ¬ 1 ≤ dist := by omega
    go_enter Try.func20, Try.ntmps20
    go_wp2
    go_ret
    rw [hE.out]
    exact ⟨rfl, (Below.refl _ _).alloc (Nat.le_refl _) _⟩
  · have hE : Hid (decide (IsM ⟨x, len, dist⟩) = false) := decide_eq_false fun h => by have := h.2.2.2; dsimp only at this; omega
    have b4 : ¬ dist ≤ 32768 := by omega
    go_enter Try.func20, Try.ntmps20
    go_wp2
    go_ret
    rw [hE.out]
    exact ⟨rfl, (Below.refl _ _).alloc (Nat.le_refl _) _⟩
  · have hE : Hid (decide (IsM ⟨x, len, dist⟩) = true) := decide_eq_true ⟨g1, g2, g3, g4⟩
    go_enter Try.func20, Try.ntmps20
    go_wp2
    go_ret
    rw [hE.out]
    exact ⟨rfl, (Below.refl _ _).alloc (Nat.le_refl _) _⟩
theorem wrong_c (t : Tok) (w : World) : Calls Try.prog 19 #[tkV t] w fun e w' => e = .returned (.bool (decide (¬ TokOk t))) ∧ Below w.heap.size w w' := by
  have HM := Lib.hid (fun W => isMatch_c t W)
  obtain ⟨x, len, dist⟩ := t
  unfold tkV at HM ⊢
  dsimp only at HM ⊢
  by_cases h0 : len = 0
  · have hz : (len != 0) = false := by rw [bne_eq_false_iff_eq]; exact h0
    have hE : Hid (decide (¬ TokOk ⟨x, len, dist⟩) = false) := decide_eq_false fun h => h (.inl h0)
    clear h0
    go_enter Try.func19, Try.ntmps19
    go_wp2
    go_ret
    rw [hE.out]
    exact ⟨rfl, (Below.refl _ _).alloc (Nat.le_refl _) _⟩
  · have hz : (len != 0) = true := by rw [bne_iff_ne]; exact h0
    have hE : Hid (decide (¬ TokOk ⟨x, len, dist⟩) = !decide (IsM ⟨x, len, dist⟩)) := by
      unfold Hid
      show decide (¬ (len = 0 ∨ IsM ⟨x, len, dist⟩)) = _
      by_cases h1 : IsM ⟨x, len, dist⟩ <;> simp [h0, h1]
    clear h0
    generalize decide (IsM ⟨x, len, dist⟩) = bb at *
    go_enter Try.func19, Try.ntmps19
    go_wp2_with fail
    refine (HM.out _).mono ?_
    rintro e w2 ⟨rfl, hb⟩
    have HB := Lib.hid (belT hb)
    clear hb
    go_wp2
    go_ret
    rw [hE.out]
    exact ⟨rfl, HB.out⟩
/-- how many right ones stand ahead -/
def okF : List Tok → Nat
  | [] => 0
  | t :: r => if TokOk t then okF r + 1 else 0
theorem okF_le (T : List Tok) : okF T ≤ T.length := by
  induction T with
  | nil => simp [okF]
  | cons t r ih => unfold okF; split <;> simp <;> omega
theorem okF_at : ∀ {T : List Tok} {i : Nat}, i < okF T → TokOk (tg T i) := by
  intro T
  induction T with
  | nil => intro i h; simp [okF] at h
  | cons t r ih =>
    intro i h
    unfold okF at h
    split at h
    · rename_i h1
      cases i with
      | zero => exact h1
      | succ i => rw [tg_cons]; exact ih (by omega)
    · omega
theorem okF_end : ∀ {T : List Tok}, okF T < T.length → ¬ TokOk (tg T (okF T)) := by
  intro T
  induction T with
  | nil => intro h; simp at h
  | cons t r ih =>
    intro h
    by_cases h1 : TokOk t
    · have e : okF (t :: r) = okF r + 1 := by simp only [okF]; rw [if_pos h1]
      rw [e] at h ⊢
      rw [tg_cons]
      exact ih (by simpa using h)
    · have e : okF (t :: r) = 0 := by simp only [okF]; rw [if_neg h1]
      rw [e]
      exact h1
theorem okF_is {T : List Tok} {k : Nat} (h1 : ∀ i, i < k → TokOk (tg T i)) (h2 : k = T.length ∨ k < T.length ∧ ¬ TokOk (tg T k)) : okF T = k := by
  rcases Nat.lt_trichotomy (okF T) k with h | h | h
  · exfalso
    have hk : k ≤ T.length := by omega
    exact okF_end (by omega) (h1 _ h)
  · exact h
  · exfalso
    have := okF_le T
    rcases h2 with h2 | h2
    · omega
    · exact h2.2 (okF_at h)
set_option maxHeartbeats 1000000 in
theorem Index_c (A : Option Addr) (n c : Nat) (T : List Tok) (w : World) (h : TRow w A n T) (hn : n ≤ 100000) :
    Calls Try.prog 18 #[.slice A n c, .func (.func 19) #[] #[]] w fun e w' => e = .returned (.int .i64 (if okF T < n then ((okF T : Nat) : Int) else -1)) ∧ Below w.heap.size w w' := by
  have HH := Lib.hid h
  have HLEN := Lib.hid h.len
  obtain ⟨z, hz⟩ : ∃ z : Int, z = (if okF T < n then ((okF T : Nat) : Int) else -1) := ⟨_, rfl⟩
  rw [← hz]
  have HZ := Lib.hid hz
  clear h hz
  go_enter Try.func18, Try.ntmps18
  go_wp2
  go_loopw [8] (fun iv wr => ∃ i : Nat, iv = .int .i64 i ∧ i ≤ n ∧ Hid (∀ j, j < i → TokOk (tg T j)) ∧ Hid (Below w.heap.size w wr)) (fun iv _ => n - (intOf iv).toNat)
  case atStart => exact ⟨0, rfl, by omega, fun j hj => by omega, Below.refl _ _⟩
  case round =>
    obtain ⟨i, rfl, hin, hO, hb⟩ := hrel
    by_cases hlt : i < n
    · have hlt2 : (i : Int) < (n : Int) := by omega
      have h1 := HH.out.below hb.out
      obtain ⟨b, off, rfl, hl, c0, c1, c2⟩ := h1.at_ hlt
      have HW := Lib.hid (fun W => wrong_c (tg T i) W)
      have hnx : Hid (TokOk (tg T i) → ∀ j, j < i + 1 → TokOk (tg T j)) := fun ho j hj => by
        rcases Nat.lt_or_ge j i with h9 | h9
        · exact hO.out j h9
        · obtain rfl : j = i := by omega
          exact ho
      have hend : Hid (¬ TokOk (tg T i) → okF T = i) := fun ho => okF_is hO.out (.inr ⟨by rw [HLEN.out]; exact hlt, ho⟩)
      obtain ⟨t, ht⟩ : ∃ t, t = tg T i := ⟨_, rfl⟩
      rw [← ht] at c0 c1 c2 HW hnx hend
      unfold tkV at HW
      clear h1 ht
      go_wp2_with fail
      refine (HW.out _).mono ?_
      rintro e w2 ⟨rfl, hb2⟩
      have HB2 := Lib.hid (hb.out.trans (hb2.mono hb.out.size))
      clear hb2
      by_cases hok : TokOk t
      · have hd : decide (¬ TokOk t) = false := decide_eq_false fun h => h hok
        rw [hd]
        have hn2 := Lib.hid (hnx.out hok)
        clear hd
        go_wp2
        go_roundw
        case rel => exact ⟨i + 1, by go_num, by omega, hn2, HB2⟩
        case measure => simp [intOf]; omega
      · have hd : decide (¬ TokOk t) = true := decide_eq_true hok
        rw [hd]
        have he := hend.out hok
        have hzi : Hid (z = (i : Int)) := by unfold Hid; rw [HZ.out, he, if_pos hlt]
        clear hd he
        go_wp2
        go_ret
        rw [hzi.out]
        exact ⟨rfl, HB2.out⟩
    · have hlt2 : ¬ (i : Int) < (n : Int) := by omega
      have he : Hid (okF T = n) := okF_is (fun j hj => hO.out j (by omega)) (.inl HLEN.out.symm)
      have hzi : Hid (z = -1) := by unfold Hid; rw [HZ.out, he.out, if_neg (by omega)]
      clear hlt
      go_wp2
      go_ret
      rw [hzi.out]
      exact ⟨rfl, hb.out⟩
end Go.Proofs.Ytkjogejakenmeaa
