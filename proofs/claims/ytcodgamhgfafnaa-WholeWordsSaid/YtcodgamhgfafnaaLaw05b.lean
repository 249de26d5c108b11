/-
  LAW 05: WelchOnce. No conditions.
-/
import Derived.Test.YtcodgamhgfafnaaLaw05
namespace Go.Proofs.Ytcodgamhgfafnaa
open Go.RowKit
set_option maxRecDepth 100000
set_option linter.unusedVariables false

theorem cnt_snoc {b b' : Nat → Bool} {k : Nat} (h : ∀ i, i < k → b i = b' i) : cnt b (k + 1) = cnt b' k + (b k).toNat := by
  show cnt b k + (b k).toNat = _
  rw [cnt_congr h]
/-- as many places as differ are wrong -/
theorem df_cnt (l : List F) (th : List Bool) (P : List F) (len n k : Nat) (hk : k ≤ len) (hn : k ≤ n) : (dfF l th (vals P 0 len) k).length = cnt (wrongAt (thX th n k) (thY l th n k) P) (fth th n k).length := by
  induction k with
  | zero => rfl
  | succ k ih =>
    have ih := ih (by omega) (by omega)
    have hfl := fth_le_k th n k
    unfold dfF
    cases hg : gb th k with
    | false =>
      rw [if_neg (by simp), ih]
      unfold thX thY
      rw [fth_no (.inl hg)]
    | true =>
      have e1 := thX_yes (n := n) hg (by omega)
      have e2 := thY_yes (l := l) (n := n) hg (by omega)
      have e3 : (fth th n (k + 1)).length = (fth th n k).length + 1 := by
        rw [← thX_length, e1, List.length_append, thX_length]; rfl
      have hx : gt (thX th n k ++ [plI k]) (fth th n k).length = plI k := by rw [gt_append, if_neg (by rw [thX_length]; omega), thX_length, Nat.sub_self]; rfl
      have hy : gt (thY l th n k ++ [gt l k]) (fth th n k).length = gt l k := by rw [gt_append, if_neg (by rw [thY_length]; omega), thY_length, Nat.sub_self]; rfl
      rw [e3, e1, e2, cnt_snoc (b' := wrongAt (thX th n k) (thY l th n k) P) (fun i hi => by
        unfold wrongAt
        rw [gt_append, if_pos (by rw [thX_length]; exact hi), gt_append, if_pos (by rw [thY_length]; exact hi)]), ← ih]
      have hv : gt (vals P 0 len) k = ev P (plI k) := by rw [gt_vals, if_pos (by omega), Nat.zero_add]
      have hw : wrongAt (thX th n k ++ [plI k]) (thY l th n k ++ [gt l k]) P (fth th n k).length = decide (ev P (plI k) ≠ gt l k) := by unfold wrongAt; rw [hx, hy]
      rw [hw, hv]
      by_cases hE : gt l k = ev P (plI k)
      · have hd : decide (ev P (plI k) ≠ gt l k) = false := by simp [hE]
        rw [if_neg (fun e => e.2 hE), hd]
        rfl
      · have hd : decide (ev P (plI k) ≠ gt l k) = true := by simp [Ne.symm hE]
        rw [if_pos ⟨rfl, hE⟩, hd, List.length_append]
        rfl
theorem thY_same {l l' : List F} {th : List Bool} (n k : Nat) (h : ∀ i, gb th i = true → gt l i = gt l' i) : thY l th n k = thY l' th n k := by
  unfold thY
  exact List.map_congr_left fun i hi => h i (fth_there th n k i hi)
theorem dfF_same {l l' told : List F} {th : List Bool} (k : Nat) (h : ∀ i, gb th i = true → gt l i = gt l' i) : dfF l th told k = dfF l' th told k := by
  induction k with
  | zero => rfl
  | succ k ih =>
    unfold dfF
    rw [ih]
    cases hg : gb th k with
    | false => rw [if_neg (by simp), if_neg (by simp)]
    | true => rw [h k hg]
theorem dfF_none (l : List F) (th : List Bool) (k : Nat) : dfF l th l k = [] := by
  induction k with
  | zero => rfl
  | succ k ih => unfold dfF; rw [if_neg (fun e => e.2 rfl), ih]
theorem fit_self {l P : List F} {th : List Bool} {len t n e : Nat} (ht : t = cntT th len) (h : Fit (thX th len len) (thY l th len len) t n e P) : Fit (thX th len len) (thY (vals P 0 len) th len len) t n e P := by
  refine ⟨h.tt, h.le, ?_⟩
  have h1 := df_cnt (vals P 0 len) th P len len len (Nat.le_refl _) (Nat.le_refl _)
  rw [dfF_none, fth_all th len len (Nat.le_refl _), ← ht] at h1
  rw [← h1]
  exact Nat.zero_le _
/-- where something fits, it is told -/
theorem Decode_fit (A B : Option Addr) (len ca cb N : Nat) (l P : List F) (th : List Bool) (w : World) (h : Row w A len l) (hb : BRow w B len th) (hok : DecOk len len (N : Int)) (hc : N ≤ cntT th len)
    (hP : Fit (thX th len len) (thY l th len len) (cntT th len) N ((cntT th len - N) / 2) P) :
    Calls Try.prog 8 #[.slice A len ca, .slice B len cb, .int .i64 (N : Int)] w fun e w' => ∃ T ct, e = .returned (.tuple #[.slice T len ct, .int .i64 ((dfF l th (vals P 0 len) len).length : Nat), .int .i64 0]) ∧ w'.ownsRow w.heap.size 5 1 (.slice T len ct) len (cs (vals P 0 len)) ∧ Below w.heap.size w w' := by
  refine (Decode_c A B len ca cb N l th w h hb hok).mono ?_
  rintro e w' ⟨⟨T, ct, P', rfl, hown, _, hfit⟩ | ⟨rfl, hno⟩, hbw⟩
  · have hl : (thX th len len).length = cntT th len := by rw [thX_length, fth_all th len len (Nat.le_refl _)]
    obtain ⟨-, -, -, h255⟩ := hok
    obtain rfl : P' = P := Fit.unique (fun i j hi hj => nodup_gt (thX_nodup th len len (by omega)) i j (by omega) (by omega)) (by omega) hfit hP
    exact ⟨T, ct, rfl, hown, hbw⟩
  · exact absurd hP (hno hc P)
end Go.Proofs.Ytcodgamhgfafnaa
