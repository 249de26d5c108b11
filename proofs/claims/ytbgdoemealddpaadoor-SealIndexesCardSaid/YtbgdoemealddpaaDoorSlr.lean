/-
  SEALS: what Write answers, told in one: the program's and the document's. No conditions (but the bounds of what is right).
-/
import Derived.Test.YtbgdoemealddpaaDoorSlq
namespace Go.Proofs.YtbgdoemealddpaaDoor
open Go.RowKit
set_option maxRecDepth 100000
set_option linter.unusedVariables false

/-- may it be written -/
def wrO (N K S B I : Int) (n : Nat) (RL : Nat → Nat) (L : Nat) : Bool := slR N K S B I n RL && decide ((L : Int) = 8 + S)
def wrE (N K S B I : Int) (n : Nat) (RL : Nat → Nat) (L : Nat) : Int := if wrO N K S B I n RL L = true then 0 else 1
def wrB (N K S B I : Int) (n : Nat) (RL : Nat → Nat) (R : Nat → List G) (L : Nat) (col : List F) : List F := if wrO N K S B I n RL L = true then slB N.toNat K.toNat S.toNat B.toNat I.toNat R n col else []
/-- the bounds of what is right -/
def wrD (N K S B I : Int) (n : Nat) (RL : Nat → Nat) (L : Nat) : Prop := wrO N K S B I n RL L = true → hd23 N K S B ≤ 100000 ∧ S ≤ 100000 ∧ blk23 N K S B ≤ 1000
theorem wrO_parts {N K S B I : Int} {n : Nat} {RL : Nat → Nat} {L : Nat} (h : wrO N K S B I n RL L = true) : ∃ n' k' s' b' i' : Nat, N = n' ∧ K = k' ∧ S = s' ∧ B = b' ∧ I = i' ∧ RtS n' k' s' b' i' ∧ n = n' + k' ∧ (∀ r, r < n → RL r = blkN s' b') ∧ L = 8 + s' ∧ hd23 N K S B = hdN n' k' (blkN s' b') ∧ blk23 N K S B = blkN s' b' := by
  unfold wrO slR at h
  rw [Bool.and_eq_true_iff, Bool.and_eq_true_iff, Bool.and_eq_true_iff] at h
  obtain ⟨⟨hx, hn, hu⟩, hl⟩ := h
  obtain ⟨hr, hi, hik⟩ := rix_parts hx
  obtain ⟨n', k', s', b', rfl, rfl, rfl, rfl, _⟩ := right23_nat hr
  have hn := of_decide_eq_true hn
  have hl := of_decide_eq_true hl
  have hu : unS (blk23 (n' : Int) k' s' b') n RL = false := by
    cases h9 : unS (blk23 (n' : Int) k' s' b') n RL with
    | false => rfl
    | true => rw [h9] at hu; cases hu
  rw [blk23_yes hr] at hu
  exact ⟨n', k', s', b', I.toNat, rfl, rfl, rfl, rfl, by omega, ⟨hr, by omega⟩, by omega, unS_all hu, by omega, hd23_yes hr, blk23_yes hr⟩
theorem wrO_no {N K S B I : Int} {n : Nat} {RL : Nat → Nat} {L : Nat} (h : wrO N K S B I n RL L = false) : slR N K S B I n RL = false ∨ ¬ (L : Int) = 8 + S := by
  unfold wrO at h
  cases h1 : slR N K S B I n RL with
  | false => exact .inl rfl
  | true =>
    rw [h1] at h
    exact .inr (of_decide_eq_false h)
/-- it may be written -/
theorem wrO_yes {n' k' s' b' i' : Nat} (h : RtS n' k' s' b' i') {n : Nat} (hn : n = n' + k') {RL : Nat → Nat} (hR : ∀ r, r < n → RL r = blkN s' b') {L : Nat} (hL : L = 8 + s') : wrO n' k' s' b' i' n RL L = true := by
  unfold wrO slR
  rw [h.rix, blk23_yes h.r, unS_no hR, decide_eq_true (by omega : (n : Int) = n' + k'), decide_eq_true (by omega : (L : Int) = 8 + s')]
  rfl
theorem wrB_yes {n' k' s' b' i' : Nat} {n : Nat} {RL : Nat → Nat} {R : Nat → List G} {L : Nat} {col : List F} (h : wrO n' k' s' b' i' n RL L = true) : wrB n' k' s' b' i' n RL R L col = slB n' k' s' b' i' R n col := by
  unfold wrB
  rw [if_pos h]
  rfl
set_option maxHeartbeats 2000000 in
theorem WriteU_c {N K S B I : Int} (h : Wf4 N K S B) {w : World} (ht : Tab w) {A : Option Addr} {n cap : Nat} {RA : Nat → Option Addr} {RL RC : Nat → Nat} {R : Nat → List G} (hG : GIn w A n cap RA RL RC R) {C : Option Addr} {L cc : Nat} {col : List F} (hC : RowIn w C L cc col) (hD : wrD N K S B I n RL L) :
    Calls Tryd.prog 9 #[.agg #[.int .i64 N, .int .i64 K, .int .i64 S, .int .i64 B, .int .i64 I, .slice A n cap], .slice C L cc] w fun e w' => ∃ V c', e = .returned (.tuple #[.slice V (wrB N K S B I n RL R L col).length c', .int .i64 (wrE N K S B I n RL L)]) ∧ w'.ownsRow (w.heap.size + 1) 5 1 (.slice V (wrB N K S B I n RL R L col).length c') (wrB N K S B I n RL R L col).length (cs (wrB N K S B I n RL R L col)) ∧ Below w.heap.size w w' := by
  cases hw : wrO N K S B I n RL L with
  | false =>
    have e1 : wrB N K S B I n RL R L col = [] := by unfold wrB; rw [hw]; rfl
    have e2 : wrE N K S B I n RL L = 1 := by unfold wrE; rw [hw]; rfl
    rw [e1, e2]
    refine (Write_no h hG C L cc hC.row.max (wrO_no hw)).mono ?_
    rintro e w' ⟨rfl, hb⟩
    exact ⟨none, 0, rfl, World.ownsRow_nil _ _ _ _, hb⟩
  | true =>
    obtain ⟨n', k', s', b', i', rfl, rfl, rfl, rfl, rfl, hr, hn, hR, hL, hh, hq⟩ := wrO_parts hw
    obtain ⟨d1, d2, d3⟩ := hD hw
    rw [hh] at d1
    rw [hq] at d3
    have e1 := wrB_yes (R := R) (col := col) hw
    have e2 : wrE (n' : Int) k' s' b' i' n RL L = 0 := by unfold wrE; rw [hw]; rfl
    have hl : (slB n' k' s' b' i' R n col).length = hdN n' k' (blkN s' b') + L := by
      rw [hn, slB_length (fun r h9 => (hG.row r (by omega)).1.trans (hR r (by omega))), hC.row.len]
    rw [e1, e2, hl]
    exact Write_yes h hr.r hr.ik ht hG hn hR hC hL d1 (by omega) d3
set_option maxHeartbeats 2000000 in
theorem RWriteU_c {N K S B I : Int} (h : Wf4 N K S B) {w : World} {A : Option Addr} {n cap : Nat} {RA : Nat → Option Addr} {RL RC : Nat → Nat} {R : Nat → List G} (hG : GIn w A n cap RA RL RC R) {C : Option Addr} {L cc : Nat} {col : List F} (hC : RowIn w C L cc col) (hD : wrD N K S B I n RL L) :
    Calls Tryd.prog 10 #[.agg #[.int .i64 N, .int .i64 K, .int .i64 S, .int .i64 B, .int .i64 I, .slice A n cap], .slice C L cc] w fun e w' => ∃ V c', e = .returned (.tuple #[.slice V (wrB N K S B I n RL R L col).length c', .int .i64 (wrE N K S B I n RL L)]) ∧ w'.ownsRow (w.heap.size + 1) 5 1 (.slice V (wrB N K S B I n RL R L col).length c') (wrB N K S B I n RL R L col).length (cs (wrB N K S B I n RL R L col)) ∧ Below w.heap.size w w' := by
  cases hw : wrO N K S B I n RL L with
  | false =>
    have e1 : wrB N K S B I n RL R L col = [] := by unfold wrB; rw [hw]; rfl
    have e2 : wrE N K S B I n RL L = 1 := by unfold wrE; rw [hw]; rfl
    rw [e1, e2]
    refine (RWrite_no h hG C L cc hC.row.max (wrO_no hw)).mono ?_
    rintro e w' ⟨rfl, hb⟩
    exact ⟨none, 0, rfl, World.ownsRow_nil _ _ _ _, hb⟩
  | true =>
    obtain ⟨n', k', s', b', i', rfl, rfl, rfl, rfl, rfl, hr, hn, hR, hL, hh, hq⟩ := wrO_parts hw
    obtain ⟨d1, d2, d3⟩ := hD hw
    rw [hh] at d1
    rw [hq] at d3
    have e1 := wrB_yes (R := R) (col := col) hw
    have e2 : wrE (n' : Int) k' s' b' i' n RL L = 0 := by unfold wrE; rw [hw]; rfl
    have hl : (slB n' k' s' b' i' R n col).length = hdN n' k' (blkN s' b') + L := by
      rw [hn, slB_length (fun r h9 => (hG.row r (by omega)).1.trans (hR r (by omega))), hC.row.len]
    rw [e1, e2, hl]
    exact RWrite_yes h hr.r hr.ik hG hn hR hC hL d1 (by omega) d3
/-- few sums: the bounds -/
theorem smallF.wrD {N K S B I : Int} {n : Nat} {RL : Nat → Nat} {L : Nat} (h : smallF N K S B n RL) : wrD N K S B I n RL L := fun hw => by
  obtain ⟨n', k', s', b', i', rfl, rfl, rfl, rfl, rfl, hr, hn, hR, hL, hh, hq⟩ := wrO_parts hw
  have hbd := hr.bd
  have h60 : blkN s' b' ≤ 60 := by
    rw [← hR 0 (by omega)]
    exact h.2.1 0 (by omega)
  have h2 := h.2.2 hr.r
  refine ⟨?_, by omega, by rw [hq]; omega⟩
  rw [hh]
  unfold hdN
  have h1 : 4 * (n' + k') * blkN s' b' ≤ 80 * 60 := Nat.mul_le_mul (by omega) h60
  omega
theorem wrB_le {N K S B I : Int} {n : Nat} {RL : Nat → Nat} {R : Nat → List G} {L : Nat} {col : List F} (hR : ∀ r, r < n → (R r).length = RL r) (hc : col.length = L) (hD : wrD N K S B I n RL L) : (wrB N K S B I n RL R L col).length ≤ 200008 := by
  cases hw : wrO N K S B I n RL L with
  | false => unfold wrB; rw [hw]; simp
  | true =>
    obtain ⟨n', k', s', b', i', rfl, rfl, rfl, rfl, rfl, hr, hn, hRL, hL, hh, hq⟩ := wrO_parts hw
    obtain ⟨d1, d2, d3⟩ := hD hw
    rw [hh] at d1
    rw [wrB_yes hw, hn, slB_length (fun r h9 => (hR r (by omega)).trans (hRL r (by omega))), hc]
    omega
end Go.Proofs.YtbgdoemealddpaaDoor
