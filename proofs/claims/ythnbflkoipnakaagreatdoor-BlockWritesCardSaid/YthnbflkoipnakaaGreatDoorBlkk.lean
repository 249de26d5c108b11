/-
  WHAT block's putLengths NEEDS: rows of runs, frequencies that are right, rows beside a writer. No conditions.
-/
import Derived.Test.YthnbflkoipnakaaGreatDoorBlkh
import Derived.Test.YthnbflkoipnakaaGreatDoorBlki
import Derived.Test.YthnbflkoipnakaaGreatDoorBlkj
import Derived.Test.YthnbflkoipnakaaGreatDoorBlkf
namespace Go.Proofs.YthnbflkoipnakaaGreatDoor
open Go.RowKit
set_option maxRecDepth 1000000
set_option linter.unusedVariables false

/-- the run at a place -/
def rg (R : List Rn) (i : Nat) : Rn := R.getD i ⟨0, 0, 0, 0⟩
theorem rg_lt {R : List Rn} {i : Nat} (h : i < R.length) : rg R i = R[i] := by simp [rg, List.getD, h]
theorem take_rg {R : List Rn} {i : Nat} (h : i < R.length) : R.take (i + 1) = R.take i ++ [rg R i] := by rw [rg_lt h, List.take_succ_eq_append_getElem h]
theorem rnC_cons (r : Rn) (R : List Rn) : rnC (r :: R) = [.int .i64 r.s, .int .i64 r.z, .int .i64 r.v] ++ rnC R := rfl
theorem rnC_at : ∀ (R : List Rn) (i : Nat), i < R.length → (rnC R)[i * 3]? = some (.int .i64 (rg R i).s) ∧ (rnC R)[i * 3 + 1]? = some (.int .i64 (rg R i).z) ∧ (rnC R)[i * 3 + 2]? = some (.int .i64 (rg R i).v) := by
  intro R
  induction R with
  | nil => intro i h; simp at h
  | cons r R ih =>
    intro i h
    rw [rnC_cons]
    cases i with
    | zero => exact ⟨rfl, rfl, rfl⟩
    | succ i =>
      have h1 := ih i (by simpa using h)
      have e : ∀ j, ([Value.int .i64 r.s, .int .i64 r.z, .int .i64 r.v] ++ rnC R)[(i + 1) * 3 + j]? = (rnC R)[i * 3 + j]? := fun j => by
        rw [List.getElem?_append_right (by simp; omega)]
        congr 1
        simp
        omega
      have e2 : rg (r :: R) (i + 1) = rg R i := by simp [rg]
      rw [e2]
      exact ⟨(e 0).trans h1.1, (e 1).trans h1.2.1, (e 2).trans h1.2.2⟩
/-- a row of runs reads as R -/
structure RRow (w : World) (A : Option Addr) (n : Nat) (R : List Rn) : Prop where
  len : R.length = n
  top : 0 < n → ∃ b, A = some ⟨b, 0, none⟩ ∧ b < w.heap.size ∧ ∀ i, i < n → w.cell? ⟨b, i * 3, none⟩ = some (.int .i64 (rg R i).s) ∧ w.cell? ⟨b, i * 3 + 1, none⟩ = some (.int .i64 (rg R i).z) ∧ w.cell? ⟨b, i * 3 + 2, none⟩ = some (.int .i64 (rg R i).v)
theorem RRow.ofOwn {w : World} {base n c : Nat} {A : Option Addr} {R : List Rn} (h : w.ownsRow base 101 3 (.slice A n c) n (rnC R)) (hl : R.length = n) : RRow w A n R := by
  refine ⟨hl, fun hn => ?_⟩
  rcases h.2 with ⟨_, h0⟩ | ⟨g, c', cur, hv, hb, hg, _⟩
  · omega
  · injection hv with hv _ _
    subst hv
    refine ⟨g, rfl, (h.lt g rfl).2, fun i hi => ?_⟩
    obtain ⟨h1, h2, h3⟩ := rnC_at R i (by omega)
    exact ⟨(h.cellAt (i * 3) (by omega)).trans h1, (h.cellAt (i * 3 + 1) (by omega)).trans h2, (h.cellAt (i * 3 + 2) (by omega)).trans h3⟩
theorem RRow.below {w w' : World} {A : Option Addr} {n : Nat} {R : List Rn} (h : RRow w A n R) (hb : Below w.heap.size w w') : RRow w' A n R :=
  ⟨h.len, fun hn => by
    obtain ⟨b, e, hl, hc⟩ := h.top hn
    exact ⟨b, e, by have := hb.size; omega, fun i hi => ⟨(hb.cell (p := ⟨b, i * 3, none⟩) hl).trans (hc i hi).1, (hb.cell (p := ⟨b, i * 3 + 1, none⟩) hl).trans (hc i hi).2.1, (hb.cell (p := ⟨b, i * 3 + 2, none⟩) hl).trans (hc i hi).2.2⟩⟩⟩
theorem RRow.wout {w w' : World} {A : Option Addr} {n p : Nat} {R : List Rn} {a b : Option Nat} (h : RRow w A n R) (ho : WOut p a b w w') (hA : ∀ b, A = some ⟨b, 0, none⟩ → b ≠ p ∧ a ≠ some b) : RRow w' A n R :=
  ⟨h.len, fun hn => by
    obtain ⟨b, e, hl, hc⟩ := h.top hn
    obtain ⟨h1, h2⟩ := hA b e
    have hk := ho.block b hl h1 h2
    exact ⟨b, e, by have := ho.size; omega, fun i hi => ⟨(World.cell?_of_block (a := ⟨b, i * 3, none⟩) hk).trans (hc i hi).1, (World.cell?_of_block (a := ⟨b, i * 3 + 1, none⟩) hk).trans (hc i hi).2.1, (World.cell?_of_block (a := ⟨b, i * 3 + 2, none⟩) hk).trans (hc i hi).2.2⟩⟩⟩
theorem RRow.at_ {w : World} {A : Option Addr} {n : Nat} {R : List Rn} (h : RRow w A n R) {i : Nat} (hi : i < n) : ∃ b, A = some ⟨b, 0, none⟩ ∧ b < w.heap.size ∧ w.cell? ⟨b, i * 3, none⟩ = some (.int .i64 (rg R i).s) ∧ w.cell? ⟨b, i * 3 + 1, none⟩ = some (.int .i64 (rg R i).z) ∧ w.cell? ⟨b, i * 3 + 2, none⟩ = some (.int .i64 (rg R i).v) := by
  obtain ⟨b, e, hl, hc⟩ := h.top (by omega)
  exact ⟨b, e, hl, hc i hi⟩
/-- what runs are -/
structure RnOk (r : Rn) : Prop where
  s : r.s ≤ 18
  z : r.z ≤ 7
  v : r.v < 128
theorem RunOk.rn {l : List Int} {n a : Nat} {r : Rn} (h : RunOk l n a r.s r.z r.v r.c) : RnOk r := by
  rcases h.alt with ⟨h1, h2, h3, _⟩ | ⟨h1, h2, h3, _⟩ | ⟨h1, h2, h3, _⟩ | ⟨h1, h2, h3, _⟩ <;> exact ⟨by omega, by omega, by omega⟩
theorem RTo.all {l : List Int} {n a : Nat} {R : List Rn} (h : RTo l n R a) : ∀ r ∈ R, RnOk r := by
  induction h with
  | nil => intro r hr; cases hr
  | snoc r h1 h2 ih =>
    intro x hx
    rcases List.mem_append.1 hx with hx | hx
    · exact ih x hx
    · obtain rfl := List.mem_singleton.1 hx
      exact h2.rn
theorem RTo.at_ {l : List Int} {n a i : Nat} {R : List Rn} (h : RTo l n R a) (hi : i < R.length) : RnOk (rg R i) := by
  rw [rg_lt hi]
  exact h.all _ (List.getElem_mem hi)
/-- how often each symbol comes -/
def rF (R : List Rn) : Nat → Nat := R.foldl (fun f r => bump f r.s) fun _ => 0
theorem rFold_le (s : Nat) : ∀ (R : List Rn) (f : Nat → Nat), R.foldl (fun f r => bump f r.s) f s ≤ f s + R.length := by
  intro R
  induction R with
  | nil => intro f; exact Nat.le_refl _
  | cons t r ih =>
    intro f
    have h1 := ih (bump f t.s)
    have h2 := bump_le f t.s s
    rw [List.foldl_cons, List.length_cons]
    omega
theorem rF_le (R : List Rn) (s : Nat) : rF R s ≤ R.length := by have := rFold_le s R (fun _ => 0); simpa [rF] using this
theorem rF_take {R : List Rn} {i : Nat} (h : i < R.length) : rF (R.take (i + 1)) = bump (rF (R.take i)) (rg R i).s := by
  unfold rF
  rw [take_rg h, List.foldl_append]
  rfl
theorem FreqB_mono {fr : List Int} {n : Nat} (h : ∀ i, i < n → 0 ≤ gi fr i ∧ gi fr i ≤ 1073741824) : FreqB fr n = true := by
  induction n with
  | zero => rfl
  | succ n ih =>
    unfold FreqB
    rw [ih (fun i hi => h i (by omega)), decide_eq_true (h n (by omega))]
    rfl
theorem comeN_le (fr : List Int) (n : Nat) : (comeN fr n).length ≤ n := by
  induction n with
  | zero => exact Nat.le_refl _
  | succ n ih => rw [come_succ]; split <;> omega
theorem chk_fR {n : Nat} (f : Nat → Nat) (hf : ∀ s, f s ≤ 1000000) (hn : n ≤ 288) (L : Nat) (hL : 1 ≤ L ∧ L ≤ 15) (hp : n ≤ 2 ^ L) : chkE (fR n f) n (L : Int) = 0 := by
  unfold chkE
  rw [if_neg (by omega), if_neg (by omega), if_neg (by
    rw [FreqB_mono fun i hi => by rw [fR_at f hi]; have := hf i; omega]
    simp), if_neg (by
    have := comeN_le (fR n f) n
    rw [Int.toNat_natCast]
    omega)]
theorem fR_row {w : World} {base n g : Nat} {f : Nat → Nat} (h : w.ownsRow base 3 1 (.slice (some ⟨g, 0, none⟩) n n) n (iC (fR n f))) (hf : ∀ s, f s ≤ 1000000) (hn : n ≤ 1000) : IRow w (some ⟨g, 0, none⟩) n .i64 (fR n f) :=
  IRow.ofOwn h (fun i hi => by rw [fR_at f hi]; exact wf_nat _ (by have := hf i; omega)) (by unfold maxLen; omega)
theorem ordN_at14 {i : Nat} (h : i < 19) : gi ordL i = ((ordN.getD i 0 : Nat) : Int) ∧ ordN.getD i 0 < 19 := by
  have : ∀ i, i < 19 → gi ordL i = ((ordN.getD i 0 : Nat) : Int) ∧ ordN.getD i 0 < 19 := by decide +kernel
  exact this i h
end Go.Proofs.YthnbflkoipnakaaGreatDoor
