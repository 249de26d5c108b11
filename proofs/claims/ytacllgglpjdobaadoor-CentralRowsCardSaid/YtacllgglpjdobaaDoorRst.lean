/-
  A LOOP OVER AN ITERATOR THAT KEEPS ITS STATE IN ONE CELL OF ITS OWN: what such an iterator promises, and what its caller owes. No conditions.
-/
import Derived.RangeFuncWrites
import Derived.RangeFuncBox
namespace Go.Proofs.YtacllgglpjdobaaDoor
open Go.RowKit
set_option linter.unusedVariables false

/-- whatever is turned is the iterator's own block -/
def AbS (b : Nat) (J : Nat → World → Prop) : Prop := ∀ k W W' row, J k W → W.grownBy W' row → (∀ r, row = some r → r = b) → J k W'
/-- whatever is turned is the iterator's own block, or no cells from B on -/
def OwnS (B b : Nat) (I : Nat → World → Prop) : Prop := ∀ k W W' row, I k W → W.grownBy W' row → (∀ r, row = some r → r = b ∨ (B ≤ r ∧ ∃ o : Obj, W.heap[r]? = some o ∧ o.isCells = false)) → I k W'
theorem OwnS.and {B b : Nat} {I I' : Nat → World → Prop} (h : OwnS B b I) (h' : OwnS B b I') : OwnS B b (fun k W => I k W ∧ I' k W) := fun k W W' row hs hg hr => ⟨h k W W' row hs.1 hg hr, h' k W W' row hs.2 hg hr⟩
theorem OwnS.below {B b n₀ : Nat} {w₀ : World} (hn : n₀ ≤ w₀.heap.size) (hB : n₀ ≤ B) (hb : n₀ ≤ b) : OwnS B b (fun _ W => Below n₀ w₀ W) :=
  fun _ _ _ _ hs hg hr => hs.grown hg (Nat.le_trans hn hs.size) (fun k e => by rcases hr k e with rfl | ⟨h, _⟩ <;> omega)
theorem OwnS.put {B b : Nat} {I : Nat → World → Prop} (h : OwnS B b I) {k : Nat} {W : World} {l : Nat} {o : Obj} (o' : Obj) (hs : I k W) (hB : B ≤ l) (hl : W.heap[l]? = some o) (ho : o.isCells = false) : I k (W.putObj l o') :=
  h k W _ (some l) hs (grownBy_putObj' W l o') (fun r e => by cases e; exact .inr ⟨hB, o, hl, ho⟩)
theorem OwnS.new {B b : Nat} {I : Nat → World → Prop} (h : OwnS B b I) {k : Nat} {W : World} (o : Obj) (hs : I k W) : I k (W.alloc o) := h k W _ none hs (World.grownBy_alloc W o none) (fun r e => by cases e)
/-- what a round leaves as it was: the iterator's blocks, m of them from b on -/
def KeS (b m : Nat) (W W' : World) : Prop := (∀ k, b ≤ k → k < b + m → W'.heap[k]? = W.heap[k]?) ∧ W.heap.size ≤ W'.heap.size
theorem KeS.refl (b m : Nat) (W : World) : KeS b m W W := ⟨fun _ _ _ => rfl, Nat.le_refl _⟩
theorem KeS.trans {b m : Nat} {A B C : World} (h : KeS b m A B) (k : KeS b m B C) : KeS b m A C := ⟨fun i h1 h2 => (k.1 i h1 h2).trans (h.1 i h1 h2), Nat.le_trans h.2 k.2⟩
theorem KeS.put {b m : Nat} {W : World} {l : Nat} (o : Obj) (h : b + m ≤ l) : KeS b m W (W.putObj l o) := ⟨fun k h1 h2 => World.putObj_heap_other (by omega), by simp⟩
theorem KeS.boxed {b m : Nat} {W W' : World} (h : KeS b m W W') {k : Nat} (h1 : b ≤ k) (h2 : k < b + m) {t : TypeId} {v : Value} (hb : Boxed W k t v) : Boxed W' k t v := (h.1 k h1 h2).trans hb
/-- how a round may be left: at its end, or by a return -/
def postS (B b m : Nat) (I Ix : Nat → World → Prop) (k : Nat) (W : World) : Exit → Act → World → Prop
  | .normal, _, W' => KeepsFrom B W W' ∧ KeS b m W W' ∧ I (k + 1) W'
  | .ret, _, W' => KeepsFrom B W W' ∧ Ix k W'
  | .exit _, _, _ => False
  | .goto _, _, _ => False
  | .panic _, _, _ => False
  | .outgrown, _, _ => False
/-- what such an iterator promises: of N items each goes to yield, in order, till a round says 'no more' -/
def SeqS (F : Fence) (n : Nat) (P : Program) (gf : Nat) (lb : Array Value) (encs : Nat → Array Value) (N b m : Nat) (w : World) : Prop :=
  ∀ (l : Nat) (J Jx : Nat → World → Prop) (W : World), KeS b m w W → AbS b J → AbS b Jx →
    (∀ k W1, k < N → J k W1 → YieldAt F (n - 1) P l (encs k) W1 fun e W' => (e = .returned (.bool true) ∧ J (k + 1) W' ∧ KeS b m W1 W') ∨ (e = .returned (.bool false) ∧ Jx k W')) →
    J 0 W → CallsIn F n P gf (#[.func (.yield l) #[] #[]] ++ lb) W fun e W' => (∃ v, e = .returned v) ∧ (J N W' ∨ ∃ k, k < N ∧ Jx k W')
theorem range_s {F : Fence} {n : Nat} {P : Program} {g : Operand} {ps : Array Tmp} {assign body : Code} {Q : Exit → Act → World → Prop} {a : Act} {w : World} (hro : F.round = none) (h1 : 1 ≤ n) {gf : Nat} {lb : Array Value}
    (hg : a.eval g = .func (.func gf) #[] lb) (hFg : F.fn gf) (eg : ∀ args w, (callFunc gf args).run P w = .ok (.enter gf args) w) {encs : Nat → Array Value} {N b m : Nat} (hb : b + m ≤ w.heap.size) (hm : 0 < m)
    (hseq : SeqS F (n - 1) P gf lb encs N b m w) (hps : ∀ x, (encs x).size = ps.size) (I Ix : Nat → World → Prop) (hI : OwnS w.heap.size b I) (hIx : OwnS w.heap.size b Ix) (h0 : I 0 w) (a₁ : Nat → Act)
    (hassign : ∀ (l : Nat) (x : Nat) (W : World) (K : Act → World → Prop), K (a₁ x) W →
      assign.wpIn (F.inRound l) (n - 1 - 1) P (Exit.then K (fun _ _ _ => False)) { tmps := (ps.zip (encs x)).foldl (fun t (p, v) => t.setIfInBounds p v) a.tmps, defers := [] } W)
    (hbody : ∀ (l k : Nat) (W : World), k < N → I k W → body.wpIn (F.inRound l) (n - 1 - 1) P (postS w.heap.size b m I Ix k W) (a₁ k) W)
    (hdone : ∀ (D : Nat) (W : World), w.heap.size ≤ D → I N W → W.heap[D]? = some (.deferred (some [])) → Q .normal { a with defers := { target := .collected D, args := #[] } :: a.defers } W)
    (hstop : ∀ (D k : Nat) (W : World), w.heap.size ≤ D → k < N → Ix k W → W.heap[D]? = some (.deferred (some [])) → Code.ret.wpIn F n P Q { a with defers := { target := .collected D, args := #[] } :: a.defers } W) :
    (Code.rangeFunc g ps assign body).wpIn F n P Q a w := by
  refine wpIn_rangeFunc fun fn hfn => ?_
  rw [hro]
  obtain ⟨D, hD⟩ : ∃ D, D = w.heap.size := ⟨_, rfl⟩
  obtain ⟨rc, hrc⟩ : ∃ rc : LoopState → Option Code → Loop, rc = fun st pe => { state := st, pending := pe, fn, tmps := a.tmps, params := ps, assign, body, defers := D } := ⟨_, rfl⟩
  have hE := run_enterLoop_outer (P := P) (w := w) fn a.tmps ps assign body
  rw [← hD] at hE
  have hr0 : ({ state := .ready, pending := none, fn, tmps := a.tmps, params := ps, assign, body, defers := D } : Loop) = rc .ready none := by rw [hrc]
  rw [hr0] at hE
  obtain ⟨W1, hW1⟩ : ∃ W1, (w.alloc (.deferred (some []))).alloc (.loop (rc .ready none)) = W1 := ⟨_, rfl⟩
  rw [hW1] at hE
  have hsz : (w.alloc (.deferred (some []))).heap.size = D + 1 := by rw [World.size_alloc, hD]
  have hL : W1.heap[D + 1]? = some (.loop (rc .ready none)) := by
    rw [← hW1, ← hsz]; exact World.alloc_heap_new _ _
  have hK : W1.heap[D]? = some (.deferred (some [])) := by
    rw [← hW1]
    refine (Below.heap_alloc _ _ _ (by omega)).trans ?_
    rw [hD]; exact World.alloc_heap_new w _
  have hI1 : I 0 W1 := by rw [← hW1]; exact hI.new _ (hI.new _ h0)
  have hk1 : KeS b m w W1 := by
    rw [← hW1]
    exact ⟨fun k h1 h2 => (Below.heap_alloc _ _ _ (by omega)).trans (Below.heap_alloc _ _ _ (by omega)), by simp; omega⟩
  rw [← hD] at hI hIx hbody hdone hstop hb
  refine ⟨D + 1, _, W1, { target := .fn (.func gf) lb, args := #[.func (.yield (D + 1)) #[] #[]] }, W1, gf, #[.func (.yield (D + 1)) #[] #[]] ++ lb, W1, hE, ?_, ?_, ?_, fun _ => h1, ?_⟩
  · simp only [resolve, hg]
    simp [go_sem]
  · intro f' hf'
    simp [Target.leads] at hf'
    subst hf'
    exact hFg
  · simp [invoke, go_sem, eg]
  have other : ∀ {k : Nat} {o : Obj} {A B : World} {row : Option Nat}, D ≤ k → A.grownBy B row → (∀ r, row = some r → r = b) → A.heap[k]? = some o → B.heap[k]? = some o := fun hk hg hr h =>
    (hg.block _ (Array.getElem?_eq_some_iff.1 h).1 (fun e => by have := hr _ e.symm; omega)).trans h
  refine (hseq (D + 1) (fun k W => I k W ∧ W.heap[D + 1]? = some (.loop (rc .ready none)) ∧ W.heap[D]? = some (.deferred (some []))) (fun k W => Ix k W ∧ W.heap[D + 1]? = some (.loop (rc .done (some .ret))) ∧ W.heap[D]? = some (.deferred (some []))) W1 hk1
    (fun k A B row hs hg' hr => ⟨hI k A B row hs.1 hg' (fun r e => .inl (hr r e)), other (by omega) hg' hr hs.2.1, other (Nat.le_refl _) hg' hr hs.2.2⟩)
    (fun k A B row hs hg' hr => ⟨hIx k A B row hs.1 hg' (fun r e => .inl (hr r e)), other (by omega) hg' hr hs.2.1, other (Nat.le_refl _) hg' hr hs.2.2⟩) ?_ ⟨hI1, hL, hK⟩).mono ?_
  · rintro k W hkN ⟨hi, hl, hk⟩
    have hlt : D + 1 < W.heap.size := (Array.getElem?_eq_some_iff.1 hl).1
    have hy := run_yield (P := P) (args := encs k) hl (by rw [hrc]; exact hps k)
    rw [hrc] at hy
    refine ⟨fn, _, assign, body, hy, roundIn_of_wpIn hfn (hassign _ k W _ ⟨_, run_beginRound hl (by rw [hrc]), ?_⟩)⟩
    obtain ⟨lb2, hlb2⟩ : ∃ lb2 : Loop, lb2 = { rc .ready none with state := .busy } := ⟨_, rfl⟩
    rw [← hlb2]
    obtain ⟨W2, hW2⟩ : ∃ W2, W2 = W.putObj (D + 1) (.loop lb2) := ⟨_, rfl⟩
    have hl2 : W2.heap[D + 1]? = some (.loop lb2) := by rw [hW2]; exact World.putObj_heap_same hlt
    have hd2 : W2.heap[D]? = some (.deferred (some [])) := by rw [hW2]; exact (World.putObj_heap_other (by omega)).trans hk
    have hs2 : KeS b m W W2 := by rw [hW2]; exact KeS.put _ (by omega)
    have hi2 : I k W2 := by rw [hW2]; exact hI.put _ hi (by omega) hl rfl
    rw [← hW2]
    refine wpIn_mono (hbody _ k W2 hkN hi2) ?_
    have fin : ∀ (jump : Option Code) (W3 : World), KeepsFrom D W2 W3 → ∃ W4, (Instr.endRound (D + 1) jump).run P W3 = .ok (.bool jump.isNone) W4 ∧ W3.heap[D + 1]? = some (.loop lb2) ∧ W4 = W3.putObj (D + 1) (.loop (rc (if jump.isNone then .ready else .done) jump)) ∧
        W4.heap[D + 1]? = some (.loop (rc (if jump.isNone then .ready else .done) jump)) ∧ W4.heap[D]? = some (.deferred (some [])) := fun jump W3 hk3 => by
      have hl3 := hk3.same _ _ (by omega) hl2 rfl
      have he := run_endRound (P := P) jump hl3
      have e5 : ({ lb2 with state := if jump.isNone then .ready else .done, pending := jump } : Loop) = rc (if jump.isNone then .ready else .done) jump := by rw [hlb2, hrc]
      rw [e5] at he
      exact ⟨_, he, hl3, rfl, World.putObj_heap_same (Array.getElem?_eq_some_iff.1 hl3).1, (World.putObj_heap_other (by omega)).trans (hk3.same _ _ (Nat.le_refl _) hd2 rfl)⟩
    rintro e a3 W3 hp
    cases e with
    | normal =>
      obtain ⟨hk3, hs3, hi3⟩ := hp
      obtain ⟨W4, hr4, hl3, e4, hl4, hd4⟩ := fin none W3 hk3
      refine ⟨_, W4, hr4, .inl ⟨rfl, ⟨?_, hl4, hd4⟩, (hs2.trans hs3).trans ?_⟩⟩
      · rw [e4]; exact hI.put _ hi3 (by omega) hl3 rfl
      · rw [e4]; exact KeS.put _ (by omega)
    | ret =>
      obtain ⟨hk3, hi3⟩ := hp
      obtain ⟨W4, hr4, hl3, e4, hl4, hd4⟩ := fin (some .ret) W3 hk3
      refine ⟨_, W4, hr4, .inr ⟨rfl, ?_, hl4, hd4⟩⟩
      rw [e4]; exact hIx.put _ hi3 (by omega) hl3 rfl
    | exit id => exact hp.elim
    | goto t => exact hp.elim
    | panic ch => exact hp.elim
    | outgrown => exact hp.elim
  · rintro e W2 ⟨⟨v, rfl⟩, (⟨hi, hl, hd⟩ | ⟨k, hkN, hi, hl, hd⟩)⟩
    · have := run_endLoop (P := P) hl (by rw [hrc]; simp)
      have e5 : (rc .ready none).pending = none := by rw [hrc]
      rw [e5] at this
      exact ⟨none, _, this, hdone D _ (Nat.le_refl _) (hI.put _ hi (by omega) hl rfl) ((World.putObj_heap_other (by omega)).trans hd)⟩
    · have := run_endLoop (P := P) hl (by rw [hrc]; simp)
      have e5 : (rc .done (some .ret)).pending = some .ret := by rw [hrc]
      rw [e5] at this
      exact ⟨some .ret, _, this, hstop D k _ (Nat.le_refl _) hkN (hIx.put _ hi (by omega) hl rfl) ((World.putObj_heap_other (by omega)).trans hd)⟩
end Go.Proofs.YtacllgglpjdobaaDoor
