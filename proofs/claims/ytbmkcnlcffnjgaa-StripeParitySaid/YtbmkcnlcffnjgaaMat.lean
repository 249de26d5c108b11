/-
  MATRICES IN MEMORY: rows of cells told by the index; a row of rows that came in; a row of rows that a call owns. No conditions.
-/
import Derived.Test.YtbmkcnlcffnjgaaBase
import Derived.Test.YtbmkcnlcffnjgaaJoin
import Derived.Test.YtbmkcnlcffnjgaaScale2
import Derived.Test.YtbmkcnlcffnjgaaRef3
import Derived.Laws.CopyOwn
import Derived.Deep.Matrix
namespace Go.Proofs.Ytbmkcnlcffnjgaa
open Go.RowKit
set_option maxRecDepth 100000
set_option linter.unusedVariables false

/-- bytes of it, from k on, read as a row -/
theorem RowV.row {w : World} {b C : Nat} {f : Nat → F} (h : RowV w b C fun j => .int .u8 (f j).n) (hC : C ≤ maxLen) {k m : Nat} (hk : k + m ≤ C) : Row w (some ⟨b, k, none⟩) m (mkF (fun j => f (k + j)) m) := by
  refine ⟨mkF_length _ _, by omega, fun _ => ⟨b, k, rfl, h.lt, fun i hi => ?_⟩⟩
  rw [h.cell (by omega), gt_mkF, if_pos hi]

/-- a row of rows that a call owns: blocks between lo and hi, each its own -/
structure Mat (w : World) (lo hi g n C : Nat) (K G : Nat → Nat) (M : Nat → Nat → F) : Prop where
  top : RowV w g n fun r => .slice (some ⟨G r, 0, none⟩) C (K r)
  rows : ∀ r, r < n → RowV w (G r) C fun j => .int .u8 (M r j).n
  inj : ∀ r s, r < n → s < n → G r = G s → r = s
  gne : ∀ r, r < n → G r ≠ g
  glo : lo ≤ g ∧ g < hi
  rlo : ∀ r, r < n → lo ≤ G r ∧ G r < hi
  cap : ∀ r, r < n → C ≤ K r ∧ K r ≤ maxLen
  nmax : n ≤ maxLen
  hle : hi ≤ w.heap.size
namespace Mat
variable {w w' : World} {lo hi g n C : Nat} {K G : Nat → Nat} {M M' : Nat → Nat → F}
theorem below (h : Mat w lo hi g n C K G M) (hb : Below hi w w') : Mat w' lo hi g n C K G M :=
  ⟨h.top.below hb h.glo.2, fun r hr => (h.rows r hr).below hb (h.rlo r hr).2, h.inj, h.gne, h.glo, h.rlo, h.cap, h.nmax, Nat.le_trans h.hle hb.size⟩
theorem congr (h : Mat w lo hi g n C K G M) (e : ∀ r, r < n → ∀ j, j < C → M r j = M' r j) : Mat w lo hi g n C K G M' :=
  ⟨h.top, fun r hr => (h.rows r hr).congr fun j hj => by rw [e r hr j hj], h.inj, h.gne, h.glo, h.rlo, h.cap, h.nmax, h.hle⟩
/-- one row is another -/
theorem change (h : Mat w lo hi g n C K G M) {r : Nat} (hr : r < n) {f : Nat → F} (hg : w.grownBy w' (some (G r))) (hf : RowV w' (G r) C fun j => .int .u8 (f j).n) : Mat w' lo hi g n C K G (fun s => if s = r then f else M s) :=
  ⟨h.top.kept hg (fun e => h.gne r hr (by injection e)), fun s hs => by
    by_cases e : s = r
    · subst e
      simp only [if_pos]
      exact hf
    · simp only [if_neg e]
      exact (h.rows s hs).kept hg (fun e2 => e (h.inj s r hs hr (by injection e2 with e2; exact e2.symm))), h.inj, h.gne, h.glo, h.rlo, h.cap, h.nmax, Nat.le_trans h.hle hg.size⟩
/-- it reads as rows do that came in -/
theorem toIn (h : Mat w lo hi g n C K G M) {cg : Nat} (hn : n ≤ cg) (hm : cg ≤ maxLen) : MIn w (some ⟨g, 0, none⟩) n cg (fun r => some ⟨G r, 0, none⟩) (fun _ => C) K (fun r => mkF (M r) C) :=
  ⟨hn, hm, fun _ => ⟨g, 0, rfl, h.top.lt, fun r hr => by rw [Nat.zero_add]; exact h.top.cell hr⟩, fun r hr => by
    obtain ⟨h1, h2⟩ := h.cap r hr
    have h3 := (h.rows r hr).row (Nat.le_trans h1 h2) (k := 0) (m := C) (by omega)
    simp only [Nat.zero_add] at h3
    exact ⟨h3, h1, h2⟩⟩
theorem cellAt (h : Mat w lo hi g n C K G M) {r j : Nat} (hr : r < n) (hj : j < C) : w.cell? ⟨G r, j, none⟩ = some (.int .u8 (M r j).n) := (h.rows r hr).cell hj
theorem topAt (h : Mat w lo hi g n C K G M) {r : Nat} (hr : r < n) : w.cell? ⟨g, r, none⟩ = some (.slice (some ⟨G r, 0, none⟩) C (K r)) := h.top.cell hr
end Mat
/-- two rows change places -/
def swp {α : Type} (M : Nat → α) (a b : Nat) : Nat → α := fun i => if i = a then M b else if i = b then M a else M i
theorem swp_same {α : Type} (M : Nat → α) (a : Nat) : swp M a a = M := by
  funext i
  unfold swp
  by_cases h : i = a
  · rw [if_pos h, h]
  · rw [if_neg h, if_neg h]
/-- the top told otherwise -/
theorem Mat.retop {w w' : World} {lo hi g n C : Nat} {K G : Nat → Nat} {M : Nat → Nat → F} (h : Mat w lo hi g n C K G M) {a b : Nat} (ha : a < n) (hb : b < n) (hg : w.grownBy w' (some g))
    (ht : RowV w' g n fun r => .slice (some ⟨swp G a b r, 0, none⟩) C (swp K a b r)) : Mat w' lo hi g n C (swp K a b) (swp G a b) (swp M a b) := by
  have key : ∀ r, r < n → ∃ s, s < n ∧ swp G a b r = G s ∧ swp K a b r = K s ∧ swp M a b r = M s ∧ (if r = a then b else if r = b then a else r) = s := fun r hr => by
    unfold swp
    by_cases h1 : r = a
    · simp only [if_pos h1]; exact ⟨b, hb, rfl, rfl, rfl, rfl⟩
    · by_cases h2 : r = b
      · simp only [if_neg h1, if_pos h2]; exact ⟨a, ha, rfl, rfl, rfl, rfl⟩
      · simp only [if_neg h1, if_neg h2]; exact ⟨r, hr, rfl, rfl, rfl, rfl⟩
  refine ⟨ht, fun r hr => ?_, fun r s hr hs e => ?_, fun r hr => ?_, h.glo, fun r hr => ?_, fun r hr => ?_, h.nmax, Nat.le_trans h.hle hg.size⟩
  · obtain ⟨s, hs, e1, _, e3, _⟩ := key r hr
    rw [e1, e3]
    exact (h.rows s hs).kept hg (fun e => h.gne s hs (by injection e with e; exact e.symm))
  · obtain ⟨r', hr', e1, _, _, f1⟩ := key r hr
    obtain ⟨s', hs', e2, _, _, f2⟩ := key s hs
    rw [e1, e2] at e
    have e3 := h.inj _ _ hr' hs' e
    rw [← f1, ← f2] at e3
    clear f1 f2 e1 e2
    repeat' split at e3
    all_goals omega
  · obtain ⟨s, hs, e1, _⟩ := key r hr
    rw [e1]; exact h.gne s hs
  · obtain ⟨s, hs, e1, _⟩ := key r hr
    rw [e1]; exact h.rlo s hs
  · obtain ⟨s, hs, _, e2, _⟩ := key r hr
    rw [e2]; exact h.cap s hs
theorem setRow_grown (w : World) (g : Nat) (cs : Array Value) : w.grownBy (w.setRow g cs) (some g) := ⟨rfl, rfl, rfl, by simp [World.setRow], fun k hk hne => setRow_other w g k cs (fun e => hne (by rw [e]))⟩
theorem setCell_grown (w : World) (g i : Nat) (v : Value) : w.grownBy (w.setCell ⟨g, i, none⟩ v) (some g) := ⟨rfl, rfl, rfl, by simp [World.setCell], fun k hk hne => Go.Deep.blk_setCell_other _ _ _ _ (fun e => hne (by rw [e]))⟩
theorem Row.kept {w w' : World} {A : Option Addr} {n : Nat} {l : List F} (h : Row w A n l) {row : Option Nat} (hg : w.grownBy w' row) (hne : ∀ z, A = some z → row ≠ some z.block) : Row w' A n l :=
  ⟨h.1, h.2.1, fun hn => by
    obtain ⟨b, off, e, hb, hc⟩ := h.2.2 hn
    subst e
    exact ⟨b, off, rfl, Nat.lt_of_lt_of_le hb hg.size, fun i hi => (World.cell?_of_block (hg.block b hb (fun e => hne _ rfl e.symm))).trans (hc i hi)⟩⟩
theorem size_u8 : (Try.prog.info? 5).map (·.size) = some 1 := by kernel_rfl
/-- copy(dst, src) into a row that is owned: an equation for the walk -/
theorem copy_run {w : World} (g off m dLen dCap sCap C : Nat) (sp : Option Addr) (f : Nat → Value) (q : List F)
    (hm : m ≤ dLen) (hR : RowV w g C f) (hq : Row w sp m q) (hfit : off + m ≤ C) :
    ∃ w', (Builtin.copy_ #[22, 22] 3 #[.slice (some ⟨g, off, none⟩) dLen dCap, .slice sp m sCap]).run Try.prog w = .ok (.int .i64 m) w' ∧
      RowV w' g C (fun i => if off ≤ i ∧ i < off + m then .int .u8 (gt q (i - off)).n else f i) ∧ w.grownBy w' (some g) ∧ w'.heap.size = w.heap.size := by
  by_cases h0 : m = 0
  · subst h0
    exact ⟨w, run_copy_none (P := Try.prog) w _ _ _ 5 _ sp dLen dCap 0 sCap Try.underlying22 size_u8 (by simp), hR.congr fun i hi => by rw [if_neg (by omega)], ⟨rfl, rfl, rfl, Nat.le_refl _, fun _ _ _ => rfl⟩, rfl⟩
  · obtain ⟨ad, rfl⟩ : ∃ ad, sp = some ad := by
      obtain ⟨b, o', e, _⟩ := hq.2.2 (by omega)
      exact ⟨_, e⟩
    obtain ⟨cur, t, hg, hn, hc⟩ := hR
    have hl : (cs q).length = m := by rw [cs_length, hq.len]
    have h1 := run_copy_row (P := Try.prog) w 22 22 3 5 g off dLen dCap ad m sCap cur t (cs q) Try.underlying22 size_u8 hg (by rw [hl]; exact (Nat.min_eq_left hm).symm) hq.cells (by omega) (cs_one q)
    rw [hl, List.append_assoc] at h1
    refine ⟨_, h1, ⟨_, t, setRow_heap w g _ _ t _ hg, ?_, fun i hi => ?_⟩, setRow_grown _ _ _, by simp [World.setRow]⟩
    · simp [cs_length, hq.len]; omega
    · have hci := hc i hi
      have hlc : (cur.toList.take off).length = off := by simp; omega
      show _ = some (if off ≤ i ∧ i < off + m then .int .u8 (gt q (i - off)).n else f i)
      rw [List.getElem?_toArray, List.getElem?_append]
      by_cases h2 : i < off
      · rw [if_pos (by omega), if_neg (by omega), List.getElem?_take, if_pos h2]
        simpa using hci
      · rw [if_neg (by omega), hlc, List.getElem?_append, hl]
        by_cases h3 : i - off < m
        · rw [if_pos h3, if_pos (by omega), cs_at (by rw [hq.len]; exact h3)]
        · rw [if_neg h3, if_neg (by omega), List.getElem?_drop, show off + m + (i - off - m) = i by omega]
          simpa using hci
end Go.Proofs.Ytbmkcnlcffnjgaa
