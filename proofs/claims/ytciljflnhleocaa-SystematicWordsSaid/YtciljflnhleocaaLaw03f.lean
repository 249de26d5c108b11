/-
  LAW 03's WALK: LinearRanks: it returns true, and writes nothing that was there. No conditions.
-/
import Derived.Test.YtciljflnhleocaaLaw03c
import Derived.Test.YtciljflnhleocaaLaw03d
namespace Go.Proofs.Ytciljflnhleocaa
open Go.RowKit
set_option maxRecDepth 100000
set_option linter.unusedVariables false

theorem and31' (x : Int) : ∃ z : Nat, z ≤ 31 ∧ bits .and .i64 x 31 = (z : Int) := by
  have h : (BitVec.ofInt 64 x &&& BitVec.ofInt 64 31).toNat ≤ 31 := by
    rw [BitVec.toNat_and]
    exact Nat.le_trans Nat.and_le_right (by decide)
  refine ⟨_, h, ?_⟩
  show IntKind.i64.wrap ((BitVec.ofInt 64 x &&& BitVec.ofInt 64 31).toNat : Int) = _
  exact IntWalk.i64_in _ (by omega)
section
variable {w : World} {b o : Nat} {A : Option Addr} {n cap : Nat} {RA : Nat → Option Addr} {RL RC : Nat → Nat} {R : Nat → List F}
/-- all rows but the first -/
theorem MIn.tail (h : MIn w (some ⟨b, o, none⟩) n cap RA RL RC R) (hn : 0 < n) : MIn w (some ⟨b, o + 1, none⟩) (n - 1) (cap - 1) (fun r => RA (r + 1)) (fun r => RL (r + 1)) (fun r => RC (r + 1)) (fun r => R (r + 1)) :=
  ⟨by have := h.le; omega, by have := h.max; omega, fun h1 => by
    obtain ⟨b2, o2, e, hl, hc⟩ := h.top hn
    injection e with e
    injection e with e e2
    subst e e2
    exact ⟨b, o + 1, rfl, hl, fun r hr => by
      have := hc (r + 1) (by omega)
      rw [show o + 1 + r = o + (r + 1) by omega]
      exact this⟩, fun r hr => h.row (r + 1) (by omega)⟩
theorem MIn.none_ (w : World) (A : Option Addr) (c : Nat) (hc : c ≤ maxLen) (RA : Nat → Option Addr) (RL RC : Nat → Nat) (R : Nat → List F) : MIn w A 0 c RA RL RC R := ⟨Nat.zero_le _, hc, fun h => by omega, fun r hr => by omega⟩
theorem rank_tail {RL : Nat → Nat} {R : Nat → List F} (hr : isR n RL) (hn : 0 < n) : isR (n - 1) (fun r => RL (r + 1)) ∧ rankIn (n - 1) (fun r => RL (r + 1)) (fun r => R (r + 1)) ≤ rankIn n RL R ∧ rankIn n RL R ≤ rankIn (n - 1) (fun r => RL (r + 1)) (fun r => R (r + 1)) + 1 := by
  obtain ⟨m, rfl⟩ : ∃ m, n = m + 1 := ⟨n - 1, by omega⟩
  rw [Nat.add_sub_cancel]
  have h1 : isR m (fun r => RL (r + 1)) := fun r h => (hr (r + 1) (by omega)).trans (hr 1 (by omega)).symm
  have e1 : rankIn (m + 1) RL R = rankF (mat R) (m + 1) (RL 0) := by
    unfold rankIn
    rw [if_pos hr]
    rfl
  have e2 : rankIn m (fun r => RL (r + 1)) (fun r => R (r + 1)) = rankF (fun i => mat R (i + 1)) m (RL 0) := by
    unfold rankIn
    rw [if_pos h1]
    by_cases hm : m = 0
    · subst hm
      have a1 := rank_rows (fun i => mat R (i + 1)) 0 (RL 0)
      have a2 := rank_rows (mat fun r => R (r + 1)) 0 (wid 0 fun r => RL (r + 1))
      omega
    · have e3 : (fun r => RL (r + 1)) 0 = RL 0 := hr (0 + 1) (by omega)
      unfold wid
      rw [if_neg hm, e3]
      rfl
  rw [e1, e2]
  exact ⟨h1, rank_less _ _ _, rank_more _ _ _⟩
/-- a row more -/
def moreR (n : Nat) (R : Nat → List F) (s : List F) : Nat → List F := fun r => if r = n then s else R r
theorem rank_sum {RL : Nat → Nat} {R : Nat → List F} {L i j : Nat} (hr : isR n RL) (hn : n ≠ 0) (hL : RL 0 = L) (hi : i < n) (hj : j < n) :
    rankIn (n + 1) (fun r => if r = n then L else RL r) (moreR n R (sumL (R i) (R j) L)) = rankIn n RL R := by
  have e0 : (fun r => if r = n then L else RL r) 0 = L := by
    show (if 0 = n then L else RL 0) = L
    rw [if_neg (fun e => hn e.symm), hL]
  have h1 : isR (n + 1) (fun r => if r = n then L else RL r) := fun r h => by
    rw [e0]
    show (if r = n then L else RL r) = L
    by_cases e : r = n
    · rw [if_pos e]
    · rw [if_neg e, hr r (by omega), hL]
  unfold rankIn
  rw [if_pos h1, if_pos hr]
  unfold wid
  rw [if_neg hn, if_neg (by omega), e0, hL]
  have hk := fun x => ker_sum (M := mat R) (n := n) (N := L) hi hj (fun k => gt (sumL (R i) (R j) L) k) (fun k hk => by
    unfold sumL
    rw [gt_mkF, if_pos hk]
    rfl) x
  have hm : mat (moreR n R (sumL (R i) (R j) L)) = fun i' => if i' = n then (fun k => gt (sumL (R i) (R j) L) k) else mat R i' := by
    funext r k
    unfold mat moreR
    by_cases e : r = n
    · simp only [if_pos e]
    · simp only [if_neg e]
  unfold rankF
  rw [hm]
  exact congrArg List.length (rank_of_ker hk L (Nat.le_refl _))
/-- reduced again it is the same -/
theorem red_twice {M : Nat → Nat → F} {L : Nat} : (redTo (mat fun r => mkF ((redTo M n L).1 r) L) n L).2 = (redTo M n L).2 ∧ ∀ r, r < n → mkF ((redTo (mat fun r => mkF ((redTo M n L).1 r) L) n L).1 r) L = mkF ((redTo M n L).1 r) L := by
  have h1 := redTo_rref M n L
  generalize redTo M n L = X at *
  have h2 := redTo_congr (M := mat fun r => mkF (X.1 r) L) (M' := X.1) (n := n) (N := L) (fun r hr j hj => by
    show gt (mkF (X.1 r) L) j = _
    rw [gt_mkF, if_pos hj]) L (Nat.le_refl _)
  have h3 := redTo_again h1
  refine ⟨h2.1.trans h3.1, fun r hr => ?_⟩
  refine ext_gt (by rw [mkF_length, mkF_length]) fun j hj => ?_
  rw [mkF_length] at hj
  rw [gt_mkF, gt_mkF, if_pos hj, if_pos hj]
  exact (h2.2 r hr j hj).trans (h3.2 r hr j)
/-- the cells of a row of rows -/
def topL (RA : Nat → Option Addr) (RL RC : Nat → Nat) (n : Nat) : List Value := (List.range n).map fun r => .slice (RA r) (RL r) (RC r)
theorem topL_length (RA : Nat → Option Addr) (RL RC : Nat → Nat) (n : Nat) : (topL RA RL RC n).length = n := by simp [topL]
theorem topL_at {j : Nat} (h : j < n) : (topL RA RL RC n)[j]? = some (.slice (RA j) (RL j) (RC j)) := by
  unfold topL
  rw [List.getElem?_map, List.getElem?_range h]
  rfl
theorem topL_one : ∀ u ∈ topL RA RL RC n, u.oneCell' = true := fun u hu => by
  unfold topL at hu
  rw [List.mem_map] at hu
  obtain ⟨r, _, rfl⟩ := hu
  rfl
theorem topL_more (S : Option Addr) (k c : Nat) : topL (fun r => if r = n then S else RA r) (fun r => if r = n then k else RL r) (fun r => if r = n then c else RC r) (n + 1) = topL RA RL RC n ++ [.slice S k c] := by
  unfold topL
  rw [List.range_succ, List.map_append]
  congr 1
  · refine List.map_congr_left fun r hr => ?_
    have hr := List.mem_range.1 hr
    simp only [if_neg (show ¬ r = n by omega)]
  · simp
theorem MIn.cells (h : MIn w (some ⟨b, o, none⟩) n cap RA RL RC R) : ∀ j u, (topL RA RL RC n)[j]? = some u → w.cell? ((⟨b, o, none⟩ : Addr).add j) = some u := fun j u hu => by
  have hj : j < n := by
    have := (List.getElem?_eq_some_iff.1 hu).1
    rwa [topL_length] at this
  rw [topL_at hj] at hu
  obtain ⟨b2, o2, e, hl, hc⟩ := h.top (by omega)
  injection e with e
  injection e with e e2
  subst e e2
  have e3 : (⟨b, o, none⟩ : Addr).add j = ⟨b, o + j, none⟩ := by unfold Addr.add; split <;> simp_all
  rw [e3, hc j hj, hu]
theorem MIn.ofOwn {base g : Nat} {e : TypeId} (h : w.ownsRow base e 1 (.slice (some ⟨g, 0, none⟩) n cap) n (topL RA RL RC n)) (hrow : ∀ r, r < n → RowIn w (RA r) (RL r) (RC r) (R r)) : MIn w (some ⟨g, 0, none⟩) n cap RA RL RC R := by
  have h0 := RowV.own h
  have h1 : n ≤ cap ∧ cap ≤ maxLen := by
    rcases h.2 with ⟨e, _⟩ | ⟨g', cap', cur, e, _, _, h1, h2, _⟩
    · injection e with e; cases e
    · injection e with _ _ e; subst e; exact ⟨h1, h2⟩
  refine ⟨h1.1, h1.2, fun _ => ⟨g, 0, rfl, h0.lt, fun r hr => ?_⟩, hrow⟩
  rw [Nat.zero_add, h0.cell hr, List.getD_eq_getElem?_getD, topL_at hr]
  rfl
end
end Go.Proofs.Ytciljflnhleocaa
