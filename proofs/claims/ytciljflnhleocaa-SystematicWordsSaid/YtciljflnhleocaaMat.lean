/-
  MATRICES IN MEMORY: rows of cells told by the index; a row of rows that came in; a row of rows that a call owns. No conditions.
-/
import Derived.Test.YtciljflnhleocaaFrame
import Derived.Test.YtciljflnhleocaaScale2
import Derived.Test.YtciljflnhleocaaPl
import Derived.Test.YtciljflnhleocaaRef3
import Derived.Laws.CopyOwn
import Derived.Deep.Matrix
namespace Go.Proofs.Ytciljflnhleocaa
open Go.RowKit
set_option maxRecDepth 100000
set_option linter.unusedVariables false

/-- block b's first n cells are f's, and it may be written -/
def RowV (w : World) (b n : Nat) (f : Nat → Value) : Prop := ∃ (cur : Array Value) (t : TypeId), w.heap[b]? = some (.cells cur t (0, 0)) ∧ n ≤ cur.size ∧ ∀ i, i < n → cur[i]? = some (f i)
namespace RowV
variable {w w' : World} {b n : Nat} {f g : Nat → Value}
theorem cell (h : RowV w b n f) {i : Nat} (hi : i < n) : w.cell? ⟨b, i, none⟩ = some (f i) := by
  obtain ⟨c, t, hb, _, hc⟩ := h
  simp [World.cell?, hb, hc i hi]
theorem frozen (h : RowV w b n f) (i : Nat) : w.frozen? ⟨b, i, none⟩ = false := by
  obtain ⟨c, t, hb, _, _⟩ := h
  simp [World.frozen?, hb]
theorem lt (h : RowV w b n f) : b < w.heap.size := by
  obtain ⟨c, t, hb, _, _⟩ := h
  exact (Array.getElem?_eq_some_iff.1 hb).1
theorem congr (h : RowV w b n f) (e : ∀ i, i < n → f i = g i) : RowV w b n g := by
  obtain ⟨c, t, hb, hn, hc⟩ := h
  exact ⟨c, t, hb, hn, fun i hi => by rw [hc i hi, e i hi]⟩
theorem of_block (h : RowV w b n f) (e : w'.heap[b]? = w.heap[b]?) : RowV w' b n f := by
  obtain ⟨c, t, hb, hn, hc⟩ := h
  exact ⟨c, t, e.trans hb, hn, hc⟩
theorem set (h : RowV w b n f) (i : Nat) (v : Value) : RowV (w.setCell ⟨b, i, none⟩ v) b n (fun j => if j = i then v else f j) := by
  obtain ⟨c, t, hb, hn, hc⟩ := h
  refine ⟨c.setIfInBounds i v, t, ?_, by simpa using hn, fun j hj => ?_⟩
  · simp [World.setCell, Array.getElem?_modify, hb]
  · rw [Array.getElem?_setIfInBounds]
    by_cases e : j = i
    · subst e
      rw [if_pos rfl, if_pos (by omega)]
      simp
    · rw [if_neg (fun h => e h.symm)]
      simp only [if_neg e]
      exact hc j hj
theorem setOther (h : RowV w b n f) {a : Addr} (ha : b ≠ a.block) (v : Value) : RowV (w.setCell a v) b n f := h.of_block (Go.Deep.blk_setCell_other _ _ _ _ ha)
theorem below {B : Nat} (h : RowV w b n f) (hb : Below B w w') (hl : b < B) : RowV w' b n f := h.of_block (hb.block b hl)
theorem kept {row : Option Nat} (h : RowV w b n f) (hg : w.grownBy w' row) (hne : row ≠ some b) : RowV w' b n f := h.of_block (hg.block b h.lt (fun e => hne e.symm))
theorem own {base c : Nat} {e : TypeId} {xs : List Value} (h : w.ownsRow base e 1 (.slice (some ⟨b, 0, none⟩) n c) n xs) : RowV w b n (fun i => xs.getD i undef) := by
  rcases h.2 with ⟨hv, _⟩ | ⟨g, cap, cur, hv, _, hg, hnc, _, hsz, ht⟩
  · injection hv with h1; cases h1
  · injection hv with h1 _ _
    injection h1 with h1
    injection h1 with h1 _ _
    subst h1
    have hl := h.1
    refine ⟨cur, e, hg, by omega, fun i hi => ?_⟩
    have h2 : xs[i]? = cur[i]? := by
      rw [← ht, List.getElem?_take, if_pos (by omega)]
      simp
    rw [← h2, List.getElem?_eq_getElem (by omega)]
    simp [show i < xs.length by omega]
theorem ofBlk {t : TypeId} {C : Array Value} (h : Blk w b t C) : RowV w b C.size (fun i => C.getD i undef) :=
  ⟨C, t, h, Nat.le_refl _, fun i hi => by simp [hi]⟩
end RowV
/-- bytes of it, from k on, read as a row -/
theorem RowV.row {w : World} {b C : Nat} {f : Nat → F} (h : RowV w b C fun j => .int .u8 (f j).n) (hC : C ≤ maxLen) {k m : Nat} (hk : k + m ≤ C) : Row w (some ⟨b, k, none⟩) m (mkF (fun j => f (k + j)) m) := by
  refine ⟨mkF_length _ _, by omega, fun _ => ⟨b, k, rfl, h.lt, fun i hi => ?_⟩⟩
  rw [h.cell (by omega), gt_mkF, if_pos hi]

/-- a row of rows that came in -/
structure MIn (w : World) (A : Option Addr) (n cap : Nat) (RA : Nat → Option Addr) (RL RC : Nat → Nat) (R : Nat → List F) : Prop where
  le : n ≤ cap
  max : cap ≤ maxLen
  top : 0 < n → ∃ b off, A = some ⟨b, off, none⟩ ∧ b < w.heap.size ∧ ∀ r, r < n → w.cell? ⟨b, off + r, none⟩ = some (.slice (RA r) (RL r) (RC r))
  row : ∀ r, r < n → RowIn w (RA r) (RL r) (RC r) (R r)
namespace MIn
variable {w w' : World} {A : Option Addr} {n cap : Nat} {RA : Nat → Option Addr} {RL RC : Nat → Nat} {R : Nat → List F}
theorem below (h : MIn w A n cap RA RL RC R) (hb : Below w.heap.size w w') : MIn w' A n cap RA RL RC R :=
  ⟨h.le, h.max, fun hn => by
    obtain ⟨b, off, e, hl, hc⟩ := h.top hn
    exact ⟨b, off, e, by have := hb.size; omega, fun r hr => (hb.cell (p := ⟨b, off + r, none⟩) hl).trans (hc r hr)⟩, fun r hr => (h.row r hr).below hb⟩
theorem drewN (h : MIn w A n cap RA RL RC R) (q : Nat) : MIn (w.drewN q) A n cap RA RL RC R := ⟨h.le, h.max, h.top, fun r hr => (h.row r hr).drewN q⟩
theorem at_ (h : MIn w A n cap RA RL RC R) {r : Nat} (hr : r < n) : ∃ b off, A = some ⟨b, off, none⟩ ∧ b < w.heap.size ∧ w.cell? ⟨b, off + r, none⟩ = some (.slice (RA r) (RL r) (RC r)) := by
  obtain ⟨b, off, e, hl, hc⟩ := h.top (by omega)
  exact ⟨b, off, e, hl, hc r hr⟩
theorem nmax (h : MIn w A n cap RA RL RC R) : n ≤ 9223372036854775807 := by have := h.le; have := h.max; unfold maxLen at this; omega
theorem nil (w : World) : MIn w none 0 0 (fun _ => none) (fun _ => 0) (fun _ => 0) (fun _ => []) := ⟨Nat.le_refl _, by unfold maxLen; omega, fun h => by omega, fun r hr => by omega⟩
theorem ofCells {x : Addr} {Z : Nat → List Int} (hl : n ≤ cap) (hm : cap ≤ maxLen)
    (h : ∀ r, r < cap → w.cell? (x.add r) = some (.slice (RA r) (RL r) (RC r)) ∧ RL r ≤ RC r ∧ RC r ≤ maxLen ∧ (Z r).length = RC r ∧ (∀ n ∈ Z r, (Lit.int .u8 n).wf = true) ∧ (RA r = none → RC r = 0) ∧
      ∀ a', RA r = some a' → 0 ≤ a'.block ∧ ∀ c, c < RC r → w.cell? (a'.add c) = some (.int .u8 ((Z r).getD c 0))) : ∃ RA RL RC R, MIn w (some x) n cap RA RL RC R := by
  have key : ∀ r, r < n → ∃ l, RowIn w (RA r) (RL r) (RC r) l := fun r hr => by
    obtain ⟨h1, h2, h3, h4, h5, h6, h7⟩ := h r (by omega)
    cases hA : RA r with
    | none =>
      have e := h6 hA
      have e2 : RL r = 0 := by omega
      rw [e, e2]
      exact ⟨[], RowIn.nil_ w⟩
    | some a' =>
      obtain ⟨_, h8⟩ := h7 a' hA
      exact RowIn.ofCells h2 h3 h4 (fun i hi => h8 i (by omega)) h5
  obtain ⟨R, hR⟩ := Go.Deep.choose_lt key
  refine ⟨RA, RL, RC, R, hl, hm, fun hn => ?_, hR⟩
  obtain ⟨b, off, spot⟩ := x
  have h0 := (h 0 (by omega)).1
  have hspot : spot = none := by simpa [Addr.add] using World.cell?_spot h0
  subst hspot
  refine ⟨b, off, rfl, World.block_lt_of_cell? w _ h0, fun r hr => ?_⟩
  have h1 := (h r (by omega)).1
  have e : (⟨b, off, none⟩ : Addr).add r = ⟨b, off + r, none⟩ := by unfold Addr.add; split <;> simp_all
  rw [e] at h1
  exact h1
end MIn

/-- a row of rows that a call owns: blocks between lo and hi, each its own -/
structure Mat (w : World) (lo hi g n C : Nat) (K G : Nat → Nat) (M : Nat → Nat → F) : Prop where
  top : RowV w g n fun r => .slice (some ⟨G r, 0, none⟩) C (K r)
  rows : ∀ r, r < n → RowV w (G r) C fun j => .int .u8 (M r j).n
  inj : ∀ r s, r < n → s < n → G r = G s → r = s
  gne : ∀ r, r < n → G r ≠ g
  glo : lo ≤ g ∧ g < hi
  rlo : ∀ r, r < n → lo ≤ G r ∧ G r < hi
  cap : ∀ r, r < n → C ≤ K r ∧ K r ≤ maxLen
  nmax : n ≤ maxLen
  hle : hi ≤ w.heap.size
namespace Mat
variable {w w' : World} {lo hi g n C : Nat} {K G : Nat → Nat} {M M' : Nat → Nat → F}
theorem below (h : Mat w lo hi g n C K G M) (hb : Below hi w w') : Mat w' lo hi g n C K G M :=
  ⟨h.top.below hb h.glo.2, fun r hr => (h.rows r hr).below hb (h.rlo r hr).2, h.inj, h.gne, h.glo, h.rlo, h.cap, h.nmax, Nat.le_trans h.hle hb.size⟩
theorem congr (h : Mat w lo hi g n C K G M) (e : ∀ r, r < n → ∀ j, j < C → M r j = M' r j) : Mat w lo hi g n C K G M' :=
  ⟨h.top, fun r hr => (h.rows r hr).congr fun j hj => by rw [e r hr j hj], h.inj, h.gne, h.glo, h.rlo, h.cap, h.nmax, h.hle⟩
/-- one row is another -/
theorem change (h : Mat w lo hi g n C K G M) {r : Nat} (hr : r < n) {f : Nat → F} (hg : w.grownBy w' (some (G r))) (hf : RowV w' (G r) C fun j => .int .u8 (f j).n) : Mat w' lo hi g n C K G (fun s => if s = r then f else M s) :=
  ⟨h.top.kept hg (fun e => h.gne r hr (by injection e)), fun s hs => by
    by_cases e : s = r
    · subst e
      simp only [if_pos]
      exact hf
    · simp only [if_neg e]
      exact (h.rows s hs).kept hg (fun e2 => e (h.inj s r hs hr (by injection e2 with e2; exact e2.symm))), h.inj, h.gne, h.glo, h.rlo, h.cap, h.nmax, Nat.le_trans h.hle hg.size⟩
/-- it reads as rows do that came in -/
theorem toIn (h : Mat w lo hi g n C K G M) {cg : Nat} (hn : n ≤ cg) (hm : cg ≤ maxLen) : MIn w (some ⟨g, 0, none⟩) n cg (fun r => some ⟨G r, 0, none⟩) (fun _ => C) K (fun r => mkF (M r) C) :=
  ⟨hn, hm, fun _ => ⟨g, 0, rfl, h.top.lt, fun r hr => by rw [Nat.zero_add]; exact h.top.cell hr⟩, fun r hr => by
    obtain ⟨h1, h2⟩ := h.cap r hr
    have h3 := (h.rows r hr).row (Nat.le_trans h1 h2) (k := 0) (m := C) (by omega)
    simp only [Nat.zero_add] at h3
    exact ⟨h3, h1, h2⟩⟩
theorem cellAt (h : Mat w lo hi g n C K G M) {r j : Nat} (hr : r < n) (hj : j < C) : w.cell? ⟨G r, j, none⟩ = some (.int .u8 (M r j).n) := (h.rows r hr).cell hj
theorem topAt (h : Mat w lo hi g n C K G M) {r : Nat} (hr : r < n) : w.cell? ⟨g, r, none⟩ = some (.slice (some ⟨G r, 0, none⟩) C (K r)) := h.top.cell hr
end Mat
/-- nothing that was there is another, but between lo and hi -/
structure Out (lo hi : Nat) (w w' : World) : Prop where
  os : w'.os = w.os
  tape : w'.tape = w.tape
  output : w'.output = w.output
  size : w.heap.size ≤ w'.heap.size
  block : ∀ k, k < w.heap.size → (k < lo ∨ hi ≤ k) → w'.heap[k]? = w.heap[k]?
namespace Out
variable {lo hi : Nat} {w w' w'' : World}
theorem refl (lo hi : Nat) (w : World) : Out lo hi w w := ⟨rfl, rfl, rfl, Nat.le_refl _, fun _ _ _ => rfl⟩
theorem trans (h : Out lo hi w w') (k : Out lo hi w' w'') : Out lo hi w w'' :=
  ⟨k.os.trans h.os, k.tape.trans h.tape, k.output.trans h.output, Nat.le_trans h.size k.size, fun i hi' ho => (k.block i (Nat.lt_of_lt_of_le hi' h.size) ho).trans (h.block i hi' ho)⟩
theorem ofBelow (h : Below w.heap.size w w') : Out lo hi w w' := ⟨h.os, h.tape, h.output, h.size, fun k hk _ => h.block k hk⟩
theorem ofGrown {b : Nat} (h : w.grownBy w' (some b)) (hb : lo ≤ b ∧ b < hi) : Out lo hi w w' := ⟨h.os, h.tape, h.output, h.size, fun k hk ho => h.block k hk (fun e => by injection e with e; omega)⟩
theorem below (h : Out lo hi w w') (hl : lo ≤ w.heap.size) : Below lo w w' := ⟨h.os, h.tape, h.output, h.size, fun k hk => h.block k (by omega) (.inl hk)⟩
theorem rowV {b n : Nat} {f : Nat → Value} (h : Out lo hi w w') (hr : RowV w b n f) (ho : b < lo ∨ hi ≤ b) : RowV w' b n f := hr.of_block (h.block b hr.lt ho)
theorem own {base n : Nat} {e : TypeId} {v : Value} {xs : List Value} (h : Out lo hi w w') (ho : w.ownsRow base e 1 v n xs) (hb : hi ≤ base) : w'.ownsRow base e 1 v n xs := by
  refine ⟨ho.1, ?_⟩
  rcases ho.2 with hn | ⟨g, cap, cur, rfl, hbg, hg, rest⟩
  · exact .inl hn
  · exact .inr ⟨g, cap, cur, rfl, hbg, (h.block g (Array.getElem?_eq_some_iff.1 hg).1 (.inr (by omega))).trans hg, rest⟩
end Out
/-- two rows change places -/
def swp {α : Type} (M : Nat → α) (a b : Nat) : Nat → α := fun i => if i = a then M b else if i = b then M a else M i
theorem swp_same {α : Type} (M : Nat → α) (a : Nat) : swp M a a = M := by
  funext i
  unfold swp
  by_cases h : i = a
  · rw [if_pos h, h]
  · rw [if_neg h, if_neg h]
/-- the top told otherwise -/
theorem Mat.retop {w w' : World} {lo hi g n C : Nat} {K G : Nat → Nat} {M : Nat → Nat → F} (h : Mat w lo hi g n C K G M) {a b : Nat} (ha : a < n) (hb : b < n) (hg : w.grownBy w' (some g))
    (ht : RowV w' g n fun r => .slice (some ⟨swp G a b r, 0, none⟩) C (swp K a b r)) : Mat w' lo hi g n C (swp K a b) (swp G a b) (swp M a b) := by
  have key : ∀ r, r < n → ∃ s, s < n ∧ swp G a b r = G s ∧ swp K a b r = K s ∧ swp M a b r = M s ∧ (if r = a then b else if r = b then a else r) = s := fun r hr => by
    unfold swp
    by_cases h1 : r = a
    · simp only [if_pos h1]; exact ⟨b, hb, rfl, rfl, rfl, rfl⟩
    · by_cases h2 : r = b
      · simp only [if_neg h1, if_pos h2]; exact ⟨a, ha, rfl, rfl, rfl, rfl⟩
      · simp only [if_neg h1, if_neg h2]; exact ⟨r, hr, rfl, rfl, rfl, rfl⟩
  refine ⟨ht, fun r hr => ?_, fun r s hr hs e => ?_, fun r hr => ?_, h.glo, fun r hr => ?_, fun r hr => ?_, h.nmax, Nat.le_trans h.hle hg.size⟩
  · obtain ⟨s, hs, e1, _, e3, _⟩ := key r hr
    rw [e1, e3]
    exact (h.rows s hs).kept hg (fun e => h.gne s hs (by injection e with e; exact e.symm))
  · obtain ⟨r', hr', e1, _, _, f1⟩ := key r hr
    obtain ⟨s', hs', e2, _, _, f2⟩ := key s hs
    rw [e1, e2] at e
    have e3 := h.inj _ _ hr' hs' e
    rw [← f1, ← f2] at e3
    clear f1 f2 e1 e2
    repeat' split at e3
    all_goals omega
  · obtain ⟨s, hs, e1, _⟩ := key r hr
    rw [e1]; exact h.gne s hs
  · obtain ⟨s, hs, e1, _⟩ := key r hr
    rw [e1]; exact h.rlo s hs
  · obtain ⟨s, hs, _, e2, _⟩ := key r hr
    rw [e2]; exact h.cap s hs
theorem setRow_grown (w : World) (g : Nat) (cs : Array Value) : w.grownBy (w.setRow g cs) (some g) := ⟨rfl, rfl, rfl, by simp [World.setRow], fun k hk hne => setRow_other w g k cs (fun e => hne (by rw [e]))⟩
theorem setCell_grown (w : World) (g i : Nat) (v : Value) : w.grownBy (w.setCell ⟨g, i, none⟩ v) (some g) := ⟨rfl, rfl, rfl, by simp [World.setCell], fun k hk hne => Go.Deep.blk_setCell_other _ _ _ _ (fun e => hne (by rw [e]))⟩
theorem Row.kept {w w' : World} {A : Option Addr} {n : Nat} {l : List F} (h : Row w A n l) {row : Option Nat} (hg : w.grownBy w' row) (hne : ∀ z, A = some z → row ≠ some z.block) : Row w' A n l :=
  ⟨h.1, h.2.1, fun hn => by
    obtain ⟨b, off, e, hb, hc⟩ := h.2.2 hn
    subst e
    exact ⟨b, off, rfl, Nat.lt_of_lt_of_le hb hg.size, fun i hi => (World.cell?_of_block (hg.block b hb (fun e => hne _ rfl e.symm))).trans (hc i hi)⟩⟩
theorem size_u8 : (Try.prog.info? 5).map (·.size) = some 1 := by kernel_rfl
/-- copy(dst, src) into a row that is owned: an equation for the walk -/
theorem copy_run {w : World} (g off m dLen dCap sCap C : Nat) (sp : Option Addr) (f : Nat → Value) (q : List F)
    (hm : m ≤ dLen) (hR : RowV w g C f) (hq : Row w sp m q) (hfit : off + m ≤ C) :
    ∃ w', (Builtin.copy_ #[23, 23] 3 #[.slice (some ⟨g, off, none⟩) dLen dCap, .slice sp m sCap]).run Try.prog w = .ok (.int .i64 m) w' ∧
      RowV w' g C (fun i => if off ≤ i ∧ i < off + m then .int .u8 (gt q (i - off)).n else f i) ∧ w.grownBy w' (some g) ∧ w'.heap.size = w.heap.size := by
  by_cases h0 : m = 0
  · subst h0
    exact ⟨w, run_copy_none (P := Try.prog) w _ _ _ 5 _ sp dLen dCap 0 sCap Try.underlying23 size_u8 (by simp), hR.congr fun i hi => by rw [if_neg (by omega)], ⟨rfl, rfl, rfl, Nat.le_refl _, fun _ _ _ => rfl⟩, rfl⟩
  · obtain ⟨ad, rfl⟩ : ∃ ad, sp = some ad := by
      obtain ⟨b, o', e, _⟩ := hq.2.2 (by omega)
      exact ⟨_, e⟩
    obtain ⟨cur, t, hg, hn, hc⟩ := hR
    have hl : (cs q).length = m := by rw [cs_length, hq.len]
    have h1 := run_copy_row (P := Try.prog) w 23 23 3 5 g off dLen dCap ad m sCap cur t (cs q) Try.underlying23 size_u8 hg (by rw [hl]; exact (Nat.min_eq_left hm).symm) hq.cells (by omega) (cs_one q)
    rw [hl, List.append_assoc] at h1
    refine ⟨_, h1, ⟨_, t, setRow_heap w g _ _ t _ hg, ?_, fun i hi => ?_⟩, setRow_grown _ _ _, by simp [World.setRow]⟩
    · simp [cs_length, hq.len]; omega
    · have hci := hc i hi
      have hlc : (cur.toList.take off).length = off := by simp; omega
      show _ = some (if off ≤ i ∧ i < off + m then .int .u8 (gt q (i - off)).n else f i)
      rw [List.getElem?_toArray, List.getElem?_append]
      by_cases h2 : i < off
      · rw [if_pos (by omega), if_neg (by omega), List.getElem?_take, if_pos h2]
        simpa using hci
      · rw [if_neg (by omega), hlc, List.getElem?_append, hl]
        by_cases h3 : i - off < m
        · rw [if_pos h3, if_pos (by omega), cs_at (by rw [hq.len]; exact h3)]
        · rw [if_neg h3, if_neg (by omega), List.getElem?_drop, show off + m + (i - off - m) = i by omega]
          simpa using hci
end Go.Proofs.Ytciljflnhleocaa
