/-
  SPAN: THE WRITER IN MEMORY: its box, its table, its rows: all its own, all different; what else there is stays as it was. No conditions.
-/
import Derived.Test.YtkijagodedmipaaSpb
import Derived.Test.YtkijagodedmipaaSpc
namespace Go.Proofs.Ytkijagodedmipaa
open Go.RowKit
set_option maxRecDepth 100000
set_option linter.unusedVariables false

/-- nothing that was there is another, but in Fp -/
structure KeepF (Fp : Nat → Prop) (w w' : World) : Prop where
  os : w'.os = w.os
  tape : w'.tape = w.tape
  output : w'.output = w.output
  size : w.heap.size ≤ w'.heap.size
  block : ∀ k, k < w.heap.size → ¬ Fp k → w'.heap[k]? = w.heap[k]?
/-- with the blocks between two sizes -/
def Fgrow (Fp : Nat → Prop) (a b : Nat) : Nat → Prop := fun k => Fp k ∨ (a ≤ k ∧ k < b)
namespace KeepF
variable {Fp Fq : Nat → Prop} {w w' w'' : World}
theorem refl (Fp : Nat → Prop) (w : World) : KeepF Fp w w := ⟨rfl, rfl, rfl, Nat.le_refl _, fun _ _ _ => rfl⟩
theorem ofBelow (h : Below w.heap.size w w') : KeepF Fp w w' := ⟨h.os, h.tape, h.output, h.size, fun k hk _ => h.block k hk⟩
theorem trans (h : KeepF Fp w w') (k : KeepF Fq w' w'') (hq : ∀ i, i < w.heap.size → Fq i → Fp i) : KeepF Fp w w'' :=
  ⟨k.os.trans h.os, k.tape.trans h.tape, k.output.trans h.output, Nat.le_trans h.size k.size, fun i hi hn => (k.block i (Nat.lt_of_lt_of_le hi h.size) (fun e => hn (hq i hi e))).trans (h.block i hi hn)⟩
theorem trans' (h : KeepF Fp w w') (k : KeepF (Fgrow Fp w.heap.size w'.heap.size) w' w'') : KeepF Fp w w'' := h.trans k fun i hi e => by
  rcases e with e | e
  · exact e
  · omega
theorem below {B : Nat} (h : KeepF Fp w w') (hB : B ≤ w.heap.size) (hF : ∀ k, Fp k → B ≤ k) : Below B w w' := ⟨h.os, h.tape, h.output, h.size, fun k hk => h.block k (by omega) (fun e => by have := hF k e; omega)⟩
theorem grown {row : Option Nat} (h : KeepF Fp w w') (hg : w'.grownBy w'' row) (hr : ∀ k, k < w.heap.size → row = some k → Fp k) : KeepF Fp w w'' :=
  h.trans (Fq := fun k => row = some k) ⟨hg.os, hg.tape, hg.output, hg.size, fun k hk hn => hg.block k hk fun e => hn e.symm⟩ hr
theorem setCell (h : KeepF Fp w w') {a : Addr} (ha : a.block < w.heap.size → Fp a.block) (u : Value) : KeepF Fp w (w'.setCell a u) :=
  h.trans (Fq := fun k => k = a.block) ⟨rfl, rfl, rfl, by simp [World.setCell], fun k hk hn => Below.heap_setCell _ _ _ _ hn⟩ fun i hi e => by subst e; exact ha hi
theorem mono (h : KeepF Fp w w') (hq : ∀ k, k < w.heap.size → Fp k → Fq k) : KeepF Fq w w' := ⟨h.os, h.tape, h.output, h.size, fun k hk hn => h.block k hk fun e => hn (hq k hk e)⟩
end KeepF
def obk (A : Option Addr) : Option Nat := A.map (·.block)
theorem ownBlock_slice (A : Option Addr) (n c : Nat) : (Value.slice A n c).ownBlock = obk A := by cases A <;> rfl
/-- a table's cells -/
def rcs (RA : Nat → Option Addr) (R : Nat → List F) (RC : Nat → Nat) (n : Nat) : List Value := (List.range n).map fun r => .slice (RA r) (R r).length (RC r)
theorem rcs_length {RA : Nat → Option Addr} {R : Nat → List F} {RC : Nat → Nat} (n : Nat) : (rcs RA R RC n).length = n := by simp [rcs]
theorem rcs_at {RA : Nat → Option Addr} {R : Nat → List F} {RC : Nat → Nat} {n r : Nat} (h : r < n) : (rcs RA R RC n)[r]? = some (.slice (RA r) (R r).length (RC r)) := by simp [rcs, h]
theorem rcs_one {RA : Nat → Option Addr} {R : Nat → List F} {RC : Nat → Nat} {n : Nat} : ∀ u ∈ rcs RA R RC n, u.oneCell' = true := by
  intro u hu
  simp only [rcs, List.mem_map] at hu
  obtain ⟨r, _, rfl⟩ := hu
  rfl
/-- another at one place -/
def upd {α : Type} (f : Nat → α) (l : Nat) (x : α) : Nat → α := fun r => if r = l then x else f r
theorem upd_at {α : Type} (f : Nat → α) (l : Nat) (x : α) : upd f l x l = x := if_pos rfl
theorem upd_ne {α : Type} (f : Nat → α) {l r : Nat} (x : α) (h : r ≠ l) : upd f l x r = f r := if_neg h
theorem rcs_set {RA : Nat → Option Addr} {R : Nat → List F} {RC : Nat → Nat} {n l : Nat} (h : l < n) (A : Option Addr) (b : List F) (c : Nat) :
    (rcs RA R RC n).set l (.slice A b.length c) = rcs (upd RA l A) (upd R l b) (upd RC l c) n := by
  refine List.ext_getElem? fun i => ?_
  by_cases hi : i < n
  · rw [rcs_at hi]
    by_cases e : i = l
    · subst e
      rw [List.getElem?_set_self (by rw [rcs_length]; exact h), upd_at, upd_at, upd_at]
    · rw [List.getElem?_set_ne (fun e2 => e e2.symm), rcs_at hi, upd_ne _ _ e, upd_ne _ _ e, upd_ne _ _ e]
  · rw [List.getElem?_eq_none (by simp [rcs_length]; omega), List.getElem?_eq_none (by rw [rcs_length]; omega)]
theorem rcs_snoc {RA : Nat → Option Addr} {R : Nat → List F} {RC : Nat → Nat} (n : Nat) (A : Option Addr) (b : List F) (c : Nat) :
    rcs RA R RC n ++ [.slice A b.length c] = rcs (upd RA n A) (upd R n b) (upd RC n c) (n + 1) := by
  refine List.ext_getElem? fun i => ?_
  rcases Nat.lt_trichotomy i n with h | h | h
  · rw [List.getElem?_append_left (by rw [rcs_length]; exact h), rcs_at h, rcs_at (by omega), upd_ne _ _ (by omega), upd_ne _ _ (by omega), upd_ne _ _ (by omega)]
  · subst h
    rw [List.getElem?_append_right (by rw [rcs_length]; exact Nat.le_refl _), rcs_length, Nat.sub_self, rcs_at (by omega), upd_at, upd_at, upd_at]
    rfl
  · rw [List.getElem?_eq_none (by simp [rcs_length]; omega), List.getElem?_eq_none (by rw [rcs_length]; omega)]
theorem own_setNeS {w : World} {base n s : Nat} {e : TypeId} {v : Value} {xs : List Value} (h : w.ownsRow base e s v n xs) {a : Addr} (ha : ∀ k, v.ownBlock = some k → k ≠ a.block) (u : Value) : (w.setCell a u).ownsRow base e s v n xs := by
  obtain ⟨h1, h2⟩ := h
  refine ⟨h1, ?_⟩
  rcases h2 with h2 | ⟨g, cap, cur, hv, hg, hh, r⟩
  · exact .inl h2
  · have hne := ha g (by rw [hv]; rfl)
    exact .inr ⟨g, cap, cur, hv, hg, by rw [Below.heap_setCell _ _ _ _ hne]; exact hh, r⟩
theorem own_block {w w' : World} {base n s : Nat} {e : TypeId} {v : Value} {xs : List Value} (h : w.ownsRow base e s v n xs) (hb : ∀ k, v.ownBlock = some k → w'.heap[k]? = w.heap[k]?) : w'.ownsRow base e s v n xs := by
  obtain ⟨h1, h2⟩ := h
  refine ⟨h1, ?_⟩
  rcases h2 with h2 | ⟨g, cap, cur, hv, hg, hh, r⟩
  · exact .inl h2
  · exact .inr ⟨g, cap, cur, hv, hg, by rw [hb g (by rw [hv]; rfl)]; exact hh, r⟩
/-- rows that are one's own, all different, in Fp, but neither box nor table -/
def SRows (w : World) (base p g : Nat) (Fp : Nat → Prop) (n : Nat) (RA : Nat → Option Addr) (RC : Nat → Nat) (R : Nat → List F) : Prop :=
  ∀ r, r < n → w.ownsRow base 5 1 (.slice (RA r) (R r).length (RC r)) (R r).length (cs (R r)) ∧ ∀ b, obk (RA r) = some b → Fp b ∧ b ≠ p ∧ b ≠ g ∧ ∀ s, s < r → obk (RA s) ≠ some b
structure Spt (w : World) (base p S n : Nat) (R : Nat → List F) (Fp : Nat → Prop) (g c : Nat) (RA : Nat → Option Addr) (RC : Nat → Nat) : Prop where
  blk : Blk w p 62 #[.int .i64 S, .slice (some ⟨g, 0, none⟩) n c]
  tab : w.ownsRow base 33 1 (.slice (some ⟨g, 0, none⟩) n c) n (rcs RA R RC n)
  rows : SRows w base p g Fp n RA RC R
  fp : Fp p
  fg : Fp g
  pg : g ≠ p
  sub : ∀ k, Fp k → base ≤ k ∧ k < w.heap.size
namespace Spt
variable {w w' : World} {base p S n g c : Nat} {R : Nat → List F} {Fp Fq : Nat → Prop} {RA : Nat → Option Addr} {RC : Nat → Nat}
theorem keep (h : Spt w base p S n R Fp g c RA RC) (hs : w.heap.size ≤ w'.heap.size) (hb : ∀ k, Fp k → w'.heap[k]? = w.heap[k]?) : Spt w' base p S n R Fp g c RA RC := by
  refine ⟨?_, own_block h.tab fun k hk => ?_, fun r hr => ⟨own_block (h.rows r hr).1 fun k hk => ?_, (h.rows r hr).2⟩, h.fp, h.fg, h.pg, fun k hk => ⟨(h.sub k hk).1, Nat.lt_of_lt_of_le (h.sub k hk).2 hs⟩⟩
  · unfold Blk
    rw [hb p h.fp]
    exact h.blk
  · rw [ownBlock_slice] at hk
    injection hk with hk
    subst hk
    exact hb _ h.fg
  · rw [ownBlock_slice] at hk
    exact hb k ((h.rows r hr).2 k hk).1
theorem keepF (h : Spt w base p S n R Fp g c RA RC) (hk : KeepF Fq w w') (hq : ∀ k, Fp k → ¬ Fq k) : Spt w' base p S n R Fp g c RA RC := h.keep hk.size fun k hf => hk.block k (h.sub k hf).2 (hq k hf)
theorem below (h : Spt w base p S n R Fp g c RA RC) (hb : Below w.heap.size w w') : Spt w' base p S n R Fp g c RA RC := h.keep hb.size fun k hf => hb.block k (h.sub k hf).2
theorem drew (h : Spt w base p S n R Fp g c RA RC) : Spt w.drew base p S n R Fp g c RA RC := h.keep (Nat.le_refl _) fun _ _ => rfl
theorem drewN (h : Spt w base p S n R Fp g c RA RC) (q : Nat) : Spt (w.drewN q) base p S n R Fp g c RA RC := h.keep (Nat.le_refl _) fun _ _ => rfl
theorem glt (h : Spt w base p S n R Fp g c RA RC) : g < w.heap.size := (h.sub g h.fg).2
theorem plt (h : Spt w base p S n R Fp g c RA RC) : p < w.heap.size := (h.sub p h.fp).2
theorem cell (h : Spt w base p S n R Fp g c RA RC) {r : Nat} (hr : r < n) : w.cell? ⟨g, r, none⟩ = some (.slice (RA r) (R r).length (RC r)) := by
  rw [h.tab.cellAt r (by omega), rcs_at hr]
theorem congr {R' : Nat → List F} (h : Spt w base p S n R Fp g c RA RC) (e : ∀ r, r < n → R' r = R r) : Spt w base p S n R' Fp g c RA RC := by
  refine ⟨h.blk, ?_, fun r hr => ?_, h.fp, h.fg, h.pg, h.sub⟩
  · have e2 : rcs RA R' RC n = rcs RA R RC n := by
      unfold rcs
      refine List.map_congr_left fun r hr => ?_
      rw [e r (by simpa using hr)]
    rw [e2]; exact h.tab
  · rw [e r hr]; exact h.rows r hr
/-- the rows as they read -/
theorem min (h : Spt w base p S n R Fp g c RA RC) : MIn w (some ⟨g, 0, none⟩) n c RA (fun r => (R r).length) RC R := by
  have hc : n ≤ c ∧ c ≤ maxLen := by
    rcases h.tab.2 with ⟨e, _⟩ | ⟨g', cap, cur, e, _, _, h1, h2, _⟩
    · injection e with e; cases e
    · injection e with _ _ e; subst e; exact ⟨h1, h2⟩
  exact ⟨hc.1, hc.2, fun _ => ⟨g, 0, rfl, h.glt, fun r hr => by rw [Nat.zero_add]; exact h.cell hr⟩, fun r hr => own_in (h.rows r hr).1⟩
/-- behind bytes that were appended to the last row, and its new place laid into the table -/
theorem app (h : Spt w base p S n R Fp g c RA RC) {l : Nat} (hl : n = l + 1) {A' : Option Addr} {c' : Nat} {b : List F} {w1 : World} (hown : w1.ownsRow base 5 1 (.slice A' b.length c') b.length (cs b)) (hg : w.grownBy w1 (obk (RA l)))
    (hat : ∀ k, obk A' = some k → obk (RA l) = some k ∨ w.heap.size ≤ k) :
    Spt (w1.setCell ⟨g, l, none⟩ (.slice A' b.length c')) base p S n (upd R l b) (Fgrow Fp w.heap.size w1.heap.size) g c (upd RA l A') (upd RC l c') := by
  have hln : l < n := by omega
  have hrow := fun k (hk : obk (RA l) = some k) => (h.rows l hln).2 k hk
  have hA : ∀ k, obk A' = some k → k ≠ p ∧ k ≠ g ∧ Fgrow Fp w.heap.size w1.heap.size k ∧ ∀ s, s < l → obk (RA s) ≠ some k := fun k hk => by
    have hlt : k < w1.heap.size := (hown.lt k (by rw [ownBlock_slice]; exact hk)).2
    rcases hat k hk with e | e
    · obtain ⟨h1, h2, h3, h4⟩ := hrow k e
      exact ⟨h2, h3, .inl h1, h4⟩
    · have := h.plt
      have := h.glt
      refine ⟨by omega, by omega, .inr ⟨e, hlt⟩, fun s hs e2 => ?_⟩
      have := (h.sub k ((h.rows s (by omega)).2 k e2).1).2
      omega
  refine ⟨?_, ?_, fun r hr => ?_, .inl h.fp, .inl h.fg, h.pg, fun k hk => ?_⟩
  · have e1 : w1.heap[p]? = w.heap[p]? := hg.block p h.plt fun e => (hrow p e.symm).2.1 rfl
    unfold Blk
    rw [Below.heap_setCell _ _ _ _ (fun e => h.pg e.symm), e1]
    exact h.blk
  · have h1 := h.tab.kept hg (.inr fun e => (hrow g (by rw [ownBlock_slice] at e; exact e.symm)).2.2.1 rfl)
    have h2 := (h1.stored l (.slice A' b.length c')).1
    rw [rcs_set hln] at h2
    exact h2
  · by_cases e : r = l
    · subst e
      rw [upd_at, upd_at, upd_at]
      refine ⟨own_setNeS hown (fun k hk => by rw [ownBlock_slice] at hk; exact (hA k hk).2.1) _, fun k hk => ⟨(hA k hk).2.2.1, (hA k hk).1, (hA k hk).2.1, fun s hs => ?_⟩⟩
      rw [upd_ne _ _ (by omega)]
      exact (hA k hk).2.2.2 s hs
    · obtain ⟨g1, g2⟩ := h.rows r hr
      rw [upd_ne _ _ e, upd_ne _ _ e, upd_ne _ _ e]
      have g3 : w1.ownsRow base 5 1 (.slice (RA r) (R r).length (RC r)) (R r).length (cs (R r)) := by
        refine g1.kept hg ?_
        rw [ownBlock_slice]
        cases hr2 : obk (RA r) with
        | none => exact .inl rfl
        | some k =>
          refine .inr fun e2 => ?_
          have h9 := (hrow k e2.symm).2.2.2 r (by omega)
          exact h9 hr2
      refine ⟨own_setNeS g3 (fun k hk => by rw [ownBlock_slice] at hk; exact (g2 k hk).2.2.1) _, fun k hk => ⟨.inl (g2 k hk).1, (g2 k hk).2.1, (g2 k hk).2.2.1, fun s hs => ?_⟩⟩
      rw [upd_ne _ _ (by omega)]
      exact (g2 k hk).2.2.2 s hs
  · have hs1 : (w1.setCell ⟨g, l, none⟩ (.slice A' b.length c')).heap.size = w1.heap.size := by simp [World.setCell]
    rw [hs1]
    rcases hk with hk | hk
    · have := h.sub k hk
      have := hg.size
      omega
    · have := h.sub p h.fp
      omega
theorem app_keep (h : Spt w base p S n R Fp g c RA RC) {l : Nat} (hl : n = l + 1) {w1 : World} (hg : w.grownBy w1 (obk (RA l))) (u : Value) : KeepF Fp w (w1.setCell ⟨g, l, none⟩ u) :=
  ((KeepF.refl Fp w).grown hg fun k _ e => ((h.rows l (by omega)).2 k e).1).setCell (a := ⟨g, l, none⟩) (fun _ => h.fg) u
/-- behind an empty row that was appended to the table -/
theorem more (h : Spt w base p S n R Fp g c RA RC) {H g' c' : Nat} {w1 : World} (hH : w.heap.size ≤ H) (hown : w1.ownsRow base 33 1 (.slice (some ⟨g', 0, none⟩) (n + 1) c') (n + 1) (rcs RA R RC n ++ [.slice none 0 0]))
    (hg : KeepF (fun k => k = g) w w1) (hat : g = g' ∨ g' = H) (hlt : g' < w1.heap.size) :
    Spt (w1.setCell ⟨p, 1, none⟩ (.slice (some ⟨g', 0, none⟩) (n + 1 : Nat) c')) base p S (n + 1) (upd R n []) (Fgrow Fp w.heap.size w1.heap.size) g' c' (upd RA n none) (upd RC n 0) := by
  have hp := h.plt
  have hgl := h.glt
  have hgp : g' ≠ p := by
    rcases hat with e | e
    · rw [← e]; exact h.pg
    · omega
  have hfg : Fgrow Fp w.heap.size w1.heap.size g' := by
    rcases hat with e | e
    · rw [← e]; exact .inl h.fg
    · exact .inr ⟨by omega, hlt⟩
  refine ⟨?_, ?_, fun r hr => ?_, .inl h.fp, hfg, hgp, fun k hk => ?_⟩
  · have e1 : w1.heap[p]? = w.heap[p]? := hg.block p h.plt fun e => h.pg e.symm
    have h1 : Blk w1 p 62 #[.int .i64 S, .slice (some ⟨g, 0, none⟩) n c] := by
      unfold Blk
      rw [e1]
      exact h.blk
    exact h1.set_ 1 _
  · have h2 := own_setNeS hown (a := ⟨p, 1, none⟩) (fun k hk => by rw [ownBlock_slice] at hk; injection hk with hk; subst hk; exact hgp) (.slice (some ⟨g', 0, none⟩) (n + 1 : Nat) c')
    have e := rcs_snoc (RA := RA) (R := R) (RC := RC) n none [] 0
    rw [List.length_nil] at e
    rw [e] at h2
    exact h2
  · by_cases e : r = n
    · subst e
      rw [upd_at, upd_at, upd_at]
      exact ⟨World.ownsRow_nil _ _ _ _, fun k hk => by cases hk⟩
    · obtain ⟨g1, g2⟩ := h.rows r (by omega)
      rw [upd_ne _ _ e, upd_ne _ _ e, upd_ne _ _ e]
      have g3 : w1.ownsRow base 5 1 (.slice (RA r) (R r).length (RC r)) (R r).length (cs (R r)) := own_block g1 fun k hk => by
        rw [ownBlock_slice] at hk
        obtain ⟨q1, q2, q3, q4⟩ := g2 k hk
        exact hg.block k (h.sub k q1).2 q3
      refine ⟨own_setNeS g3 (fun k hk => by rw [ownBlock_slice] at hk; exact (g2 k hk).2.1) _, fun k hk => ⟨.inl (g2 k hk).1, (g2 k hk).2.1, ?_, fun s hs => ?_⟩⟩
      · rcases hat with e2 | e2
        · rw [← e2]; exact (g2 k hk).2.2.1
        · have := (h.sub k (g2 k hk).1).2
          omega
      · rw [upd_ne _ _ (by omega)]
        exact (g2 k hk).2.2.2 s hs
  · have hs1 : (w1.setCell ⟨p, 1, none⟩ (.slice (some ⟨g', 0, none⟩) (n + 1 : Nat) c')).heap.size = w1.heap.size := by simp [World.setCell]
    rw [hs1]
    rcases hk with hk | hk
    · have := h.sub k hk
      have := hg.size
      omega
    · have := h.sub p h.fp
      omega
end Spt
/-- a writer of these volumes -/
def Spw (w : World) (base p S : Nat) (v : Vs) (Fp : Nat → Prop) : Prop := ∃ g c RA RC, Spt w base p S (v.P.length + 1) (vrow v) Fp g c RA RC
namespace Spw
variable {w w' : World} {base p S : Nat} {v : Vs} {Fp Fq : Nat → Prop}
theorem keepF (h : Spw w base p S v Fp) (hk : KeepF Fq w w') (hq : ∀ k, Fp k → ¬ Fq k) : Spw w' base p S v Fp := by
  obtain ⟨g, c, RA, RC, h⟩ := h
  exact ⟨g, c, RA, RC, h.keepF hk hq⟩
theorem below (h : Spw w base p S v Fp) (hb : Below w.heap.size w w') : Spw w' base p S v Fp := by
  obtain ⟨g, c, RA, RC, h⟩ := h
  exact ⟨g, c, RA, RC, h.below hb⟩
theorem drewN (h : Spw w base p S v Fp) (q : Nat) : Spw (w.drewN q) base p S v Fp := by
  obtain ⟨g, c, RA, RC, h⟩ := h
  exact ⟨g, c, RA, RC, h.drewN q⟩
theorem sub (h : Spw w base p S v Fp) : ∀ k, Fp k → base ≤ k ∧ k < w.heap.size := by
  obtain ⟨g, c, RA, RC, h⟩ := h
  exact h.sub
end Spw
end Go.Proofs.Ytkijagodedmipaa
