/-
  THE CONTRACT OF linear.reduce. No conditions but that memory lets rows be.
-/
import Derived.Test.YtcodgamhgfafnaaLinB
import Derived.Deep.LoopGhost
import Derived.Deep.AppendLies
namespace Go.Proofs.Ytcodgamhgfafnaa
open Go.RowKit
set_option maxRecDepth 100000
set_option linter.unusedVariables false

theorem elim_clr (M : Nat → Nat → F) (pos up c : Nat) (hz : ∀ j, j < c → M up j = 0) (i j : Nat) : elim M pos up c i j = clr (swp M pos up) pos c i j := by
  have e1 : swp M pos up pos = M up := if_pos rfl
  have e2 : i ≠ pos → ∀ k, swp M pos up i k = if i = up then M pos k else M i k := fun h k => by
    unfold swp
    rw [if_neg h]
    split <;> rfl
  unfold clr
  by_cases h : i = pos
  · subst h
    rw [elim_pos, if_pos rfl, e1]
    by_cases hj : j < c
    · rw [if_pos hj, hz j hj, zero_mul]
    · rw [if_neg hj]
  · rw [elim_other _ _ h, if_neg h, e1, e2 h, e2 h]
    by_cases hj : j < c
    · rw [if_pos hj, hz j hj, zero_mul, mul_zero, add_zero]
    · rw [if_neg hj]
theorem redTo_full {M : Nat → Nat → F} {n c : Nat} (h : (redTo M n c).2.length = n) : ∀ d, redTo M n (c + d) = redTo M n c := by
  intro d
  induction d with
  | zero => rfl
  | succ d ih =>
    have hf : fstNZ (redTo M n (c + d)).1 n (c + d) (redTo M n (c + d)).2.length = none := fstNZ_empty fun i h1 h2 => by rw [ih, h] at h1; omega
    have h1 := redTo_none hf
    rw [ih] at h1
    exact h1
/-- the pivots' columns as cells -/
def pivC (ps : List Nat) : List Value := ps.map fun (p : Nat) => .int .i64 (p : Int)
theorem pivC_length (ps : List Nat) : (pivC ps).length = ps.length := by simp [pivC]
theorem pivC_append (ps : List Nat) (c : Nat) : pivC (ps ++ [c]) = pivC ps ++ [.int .i64 (c : Int)] := by simp [pivC]
theorem info_int : (Try.prog.info? 3).map (fun i => (i.zero, i.size, i.bytes)) = some (some (.int .i64 0), 1, 8) := by kernel_rfl
theorem upI_ge {M : Nat → Nat → F} {n col pos up : Nat} (h : fstNZ M n col pos = some up) : ∃ u, up = pos + u ∧ upI M n col pos = (u : Int) := by
  obtain ⟨h1, _, _, _⟩ := fstNZ_some h
  refine ⟨up - pos, by omega, ?_⟩
  unfold upI
  rw [h]
theorem upI_neg {M : Nat → Nat → F} {n col pos : Nat} (h : fstNZ M n col pos = none) : upI M n col pos = -1 := by
  unfold upI
  rw [h]
theorem newc (w : World) (v : Value) (t : TypeId) : RowV (w.alloc (.cells #[v] t)) w.heap.size 1 (fun _ => v) :=
  (RowV.ofBlk (Blk.new w t #[v])).congr fun i hi => by
    have h0 : i = 0 := by simpa using hi
    subst h0
    rfl
/-- two headers change places -/
theorem Mat.swapped {w : World} {lo hi g n C : Nat} {K G : Nat → Nat} {M : Nat → Nat → F} (h : Mat w lo hi g n C K G M) {a b : Nat} (ha : a < n) (hb : b < n) :
    Mat ((w.setCell ⟨g, a, none⟩ (.slice (some ⟨G b, 0, none⟩) C (K b))).setCell ⟨g, b, none⟩ (.slice (some ⟨G a, 0, none⟩) C (K a))) lo hi g n C (swp K a b) (swp G a b) (swp M a b) := by
  refine h.retop ha hb ((setCell_grown _ _ _ _).trans (setCell_grown _ _ _ _)) (((h.top.set a _).set b _).congr fun j hj => ?_)
  unfold swp
  by_cases h1 : j = b
  · subst h1
    by_cases h2 : j = a
    · subst h2; simp
    · simp [h2]
  · by_cases h2 : j = a
    · subst h2; simp [h1]
    · simp [h1, h2]
theorem Mat.swapped' {w : World} {lo hi g n C : Nat} {K G : Nat → Nat} {M : Nat → Nat → F} (h : Mat w lo hi g n C K G M) {a b : Nat} (ha : a < n) (hb : b < n) :
    Mat ((w.setCell ⟨g, b, none⟩ (.slice (some ⟨G a, 0, none⟩) C (K a))).setCell ⟨g, a, none⟩ (.slice (some ⟨G b, 0, none⟩) C (K b))) lo hi g n C (swp K a b) (swp G a b) (swp M a b) := by
  refine h.retop ha hb ((setCell_grown _ _ _ _).trans (setCell_grown _ _ _ _)) (((h.top.set b _).set a _).congr fun j hj => ?_)
  unfold swp
  by_cases h1 : j = a
  · subst h1; simp
  · by_cases h2 : j = b
    · subst h2; simp [h1]
    · simp [h1, h2]
theorem Mat.drew {w : World} {lo hi g n C : Nat} {K G : Nat → Nat} {M : Nat → Nat → F} (h : Mat w lo hi g n C K G M) : Mat w.drew lo hi g n C K G M := h.below ⟨rfl, rfl, rfl, Nat.le_refl _, fun _ _ => rfl⟩
theorem RowV.alloc {w : World} {b n : Nat} {f : Nat → Value} (h : RowV w b n f) (o : Obj) : RowV (w.alloc o) b n f := h.of_block (heap_alloc_old w o (h := h.lt))
/-- what a matrix is reduced to, and the pivots' columns -/
def Reduced (w' : World) (base lo hi g n C : Nat) (P : Option Addr) (r pc : Nat) (X : (Nat → Nat → F) × List Nat) : Prop :=
  ∃ K' G', Hid (r = X.2.length) ∧ w'.ownsRow base 3 1 (.slice P r pc) r (pivC X.2) ∧ Mat w' lo hi g n C K' G' X.1
set_option maxHeartbeats 4000000 in
theorem reduce_c {w : World} {lo hi g n C cg : Nat} {K G : Nat → Nat} {M : Nat → Nat → F} (h : Mat w lo hi g n C K G M) (hcg : n ≤ cg) (hcg2 : cg ≤ maxLen) (cols : Int) (hcol : cols ≤ C) (hC : C ≤ 140737488355328) (hn : n ≤ 1073741824) :
    Calls Try.prog 45 #[.slice (some ⟨g, 0, none⟩) n cg, .int .i64 cols] w fun e w' => ∃ P r pc, e = .returned (.slice P r pc) ∧ Reduced w' w.heap.size lo hi g n C P r pc (redTo M n cols.toNat) ∧ Below lo w w' := by
  obtain ⟨i0, hi0, hz0, hz1, hz2⟩ := info_parts info_int
  have hmf : ∀ (fn : Fn) (first cap : Array Value) (w : World), (Instr.makeFunc fn first cap).run Try.prog w = .ok (.func fn first cap) w := fun _ _ _ _ => rfl
  have hhw := h.hle
  have hlo := h.glo
  have hrl := Lib.hid h.rlo
  unfold maxLen at hcg2
  go_enter Try.func45, Try.ntmps45
  go_wp2
  go_loopg [4, 5] cols.toNat (fun gk v p wr => ∃ (c r pc q : Nat) (P : Option Addr) (K' G' : Nat → Nat), Hid (gk + c = cols.toNat) ∧ v = .slice P r pc ∧ p = .pointer (some ⟨q, 0, none⟩) ∧ w.heap.size ≤ q ∧ Hid (r = (redTo M n c).2.length) ∧
      wr.ownsRow w.heap.size 3 1 (.slice P r pc) r (pivC (redTo M n c).2) ∧ Hid (∀ z, (Value.slice P r pc).ownBlock = some z → z < q) ∧ RowV wr q 1 (fun _ => .int .i64 c) ∧ Mat wr lo hi g n C K' G' (redTo M n c).1 ∧ Below lo w wr)
  case atStart =>
    have hb0 := (Below.refl w.heap.size w).alloc (Nat.le_refl _) (.cells #[.int .i64 0] 3)
    exact ⟨0, 0, 0, w.heap.size, none, K, G, rfl, rfl, rfl, Nat.le_refl _, rfl, ⟨rfl, .inl ⟨rfl, rfl⟩⟩, (fun z e => by cases e), newc w _ 3, h.below (hb0.mono hhw), hb0.mono (by omega)⟩
  case round =>
    obtain ⟨c, r, pc, q, P, K', G', hgk, rfl, rfl, hq, hr, hown, hPq, hcol', hM, hbel⟩ := hrel
    have qc := hcol'.cell (i := 0) (by omega)
    have hrle : r ≤ n := by rw [hr.out]; exact (redTo_rref M n c).len
    by_cases hcc : (c : Int) < cols
    · by_cases hrn : r < n
      · have hrni : (r : Int) < n := by omega
        obtain ⟨m, hm⟩ : ∃ m, m = n - r := ⟨_, rfl⟩
        have hsub : n - r = m := hm.symm
        have hrm : r + m = n := by omega
        have hcr : cg ≠ r := by omega
        have hrni2 : (r : Int) ≤ n := by omega
        have hcC : c < C := by omega
        have hIF := IndexFunc_c hM r q c m (cg - r) hrm qc hcC
        clear hm
        cases hf : fstNZ (redTo M n c).1 n c r with
        | none =>
          rw [upI_neg hf] at hIF
          have HIF := Lib.hid hIF
          have HF := Lib.hid hf
          clear hIF hf
          go_wp2_with (go_at_call 47; refine HIF.out.mono ?_; rintro e w' ⟨rfl, rfl⟩)
          have hnext : Hid (redTo M n (c + 1) = redTo M n c) := redTo_none (by rw [← hr.out]; exact HF.out)
          have hb0 := (Below.refl wr.heap.size wr).alloc (Nat.le_refl _) (.cells #[.int .i64 ((c : Int) + 1)] 3)
          have hbs := hM.hle
          have hqs := hcol'.lt
          obtain ⟨k, rfl⟩ : ∃ k, gk = k + 1 := ⟨gk - 1, by have := hgk.out; omega⟩
          go_roundg k
          case measure => omega
          case rel =>
            refine ⟨c + 1, r, pc, wr.heap.size, P, K', G', by unfold Hid; have := hgk.out; omega, rfl, rfl, by omega, by rw [hnext.out]; exact hr, ?_, fun z e => by have := hPq.out z e; omega, (newc wr _ 3).congr fun _ _ => val_i64 (by omega), ?_, hbel.trans (hb0.mono (by omega))⟩
            · rw [hnext.out]; exact hown.alloc _
            · rw [hnext.out]; exact hM.below (hb0.mono hbs)
        | some up =>
          obtain ⟨u, hup, hU⟩ := upI_ge hf
          rw [hU] at hIF
          have HIF := Lib.hid hIF
          obtain ⟨hf1, hf2, hf3, hf4⟩ := fstNZ_some hf
          have hnext : Hid (redTo M n (c + 1) = (elim (redTo M n c).1 r up c, (redTo M n c).2 ++ [c])) := by
            have h1 := redTo_some (M := M) (n := n) (c := c) (up := up) (by rw [← hr.out]; exact hf)
            rw [← hr.out] at h1
            exact h1
          have hlow := Lib.hid ((redTo_rref M n c).low up hf2 (by rw [← hr.out]; exact hf1))
          have hupi : (up : Int) < n := by omega
          have hmi : IntKind.i64.wrap ((r : Int) + (u : Int)) = (up : Int) := (IntWalk.i64_in _ (by omega)).trans (by omega)
          have HF4 := Lib.hid hf4
          clear hIF hf hU hf4 hup
          have q1 := hM.topAt hrn
          have q2 := hM.topAt hf2
          have fz1 := hM.top.frozen r
          have fz2 := hM.top.frozen up
          obtain ⟨X1, hX1⟩ : ∃ X, (wr.setCell ⟨g, r, none⟩ (.slice (some ⟨G' up, 0, none⟩) C (K' up))).cell? ⟨g, up, none⟩ = some X := ⟨_, (hM.top.set r _).cell hf2⟩
          obtain ⟨X2, hX2⟩ : ∃ X, (wr.setCell ⟨g, up, none⟩ (.slice (some ⟨G' r, 0, none⟩) C (K' r))).cell? ⟨g, r, none⟩ = some X := ⟨_, (hM.top.set up _).cell hrn⟩
          go_wp2_with (go_at_call 47; refine HIF.out.mono ?_; rintro e w' ⟨rfl, rfl⟩)
          go_region
          have hcl : ∀ x ∈ (redTo M n c).2, x < c := (redTo_rref M n c).lt
          have hgs : Out lo hi wr ((wr.setCell ⟨g, r, none⟩ (.slice (some ⟨G' up, 0, none⟩) C (K' up))).setCell ⟨g, up, none⟩ (.slice (some ⟨G' r, 0, none⟩) C (K' r))).drew :=
            ((Out.ofGrown (setCell_grown wr g r _) hlo).trans (Out.ofGrown (setCell_grown _ g up _) hlo)).trans ⟨rfl, rfl, rfl, Nat.le_refl _, fun _ _ _ => rfl⟩
          have hMs := (hM.swapped hrn hf2).drew
          have hown2 := hgs.own hown hhw
          have hcol2 := hgs.rowV hcol' (.inr (by omega))
          have hbel2 := hbel.trans (hgs.below (by have := hM.hle; omega))
          clear hgs hM hown hcol' hbel qc q1 q2 fz1 fz2 hX1 hX2 hcl
          generalize ((wr.setCell ⟨g, r, none⟩ (.slice (some ⟨G' up, 0, none⟩) C (K' up))).setCell ⟨g, up, none⟩ (.slice (some ⟨G' r, 0, none⟩) C (K' r))).drew = W at *
          have qc := hcol2.cell (i := 0) (by omega)
          go_wp2_with fail
          refine (clear_c hMs r c hrn hcC hC).mono ?_
          rintro e w3 ⟨rfl, hM3, ho3⟩
          have hown3 := ho3.own hown2 hhw
          have hcol3 := ho3.rowV hcol2 (.inr (by omega))
          have hbel3 := hbel2.trans (ho3.below (by have := hMs.hle; omega))
          have hM4 : Mat w3 lo hi g n C (swp K' r up) (swp G' r up) (redTo M n (c + 1)).1 := hM3.congr fun i hi j hj => by
            rw [hnext.out]
            exact (elim_clr _ r up c hlow.out i j).symm
          have qc3 := hcol3.cell (i := 0) (by omega)
          clear hMs hown2 hcol2 hbel2 qc ho3 hM3 hlow HF4
          have hlenr : r + 1 ≤ n := by omega
          go_wp2_with (at_builtin; refine wpList_append_own _ rfl (.tmp 51) (.tmp 53) 33 rfl w.heap.size 3 i0 (.int .i64 0) 1 8 Try.underlying33 hi0 hz0 hz1 hz2 rfl (by decide) (.slice P r pc) r (pivC (redTo M n c).2) rfl (hown3.alloc _) ⟨w3.heap.size, 0, none⟩ 1 1 [.int .i64 c] rfl rfl (one_cell w3 _ _) (by intro u hu; simp at hu; subst hu; rfl) (by unfold maxLen; omega) (by omega) (by have := hbel3.size; simp; omega) ?_; intro v5 w5 hown5 hgrow5 hnil5; have hcol5 := (hcol3.alloc (.cells #[.int .i64 (c : Int)] 3)).kept hgrow5 (fun e => by have := hPq.out q e; omega); have qc5 := hcol5.cell (i := 0) (by omega))
          rw [← pivC_append] at hown5
          obtain ⟨P5, c5, rfl, -⟩ := own_shape hown5
          have hrow5 : hi ≤ w.heap.size := hhw
          have hM5 : Mat w5 lo hi g n C (swp K' r up) (swp G' r up) (redTo M n (c + 1)).1 := by
            have hb := ((Below.refl w3.heap.size w3).alloc (Nat.le_refl _) (.cells #[.int .i64 (c : Int)] 3)).mono hM4.hle
            exact hM4.below (hb.grown hgrow5 (by have := hM4.hle; simp; omega) (fun z e => Nat.le_trans hhw (hown3.lt z e).1))
          have hbel5 : Below lo w w5 := by
            have h1 := hM4.hle
            exact (hbel3.alloc (by omega) _).grown hgrow5 (by simp; omega) (fun z e => by have := (hown3.lt z e).1; omega)
          have hPlt := Lib.hid hown5.lt
          have hb6 := (Below.refl w5.heap.size w5).alloc (Nat.le_refl _) (.cells #[.int .i64 ((c : Int) + 1)] 3)
          have hsz5 : w.heap.size ≤ w5.heap.size := hbel5.size
          have hnext2 : Hid ((redTo M n (c + 1)).2 = (redTo M n c).2 ++ [c]) := by unfold Hid; rw [hnext.out]
          rw [← hnext2.out] at hown5
          have hr2 : Hid (r + 1 = (redTo M n (c + 1)).2.length) := by
            unfold Hid
            rw [hnext2.out, List.length_append, ← hr.out]
            rfl
          obtain ⟨k, rfl⟩ : ∃ k, gk = k + 1 := ⟨gk - 1, by have := hgk.out; omega⟩
          go_roundg k
          case measure => omega
          case rel =>
            exact ⟨c + 1, r + 1, c5, w5.heap.size, P5, _, _, by unfold Hid; have := hgk.out; omega, rfl, rfl, hsz5, hr2, hown5.alloc _, (fun z e => (hPlt.out z e).2), (newc w5 _ 3).congr (fun _ _ => val_i64 (by omega)), hM5.below (hb6.mono hM5.hle), hbel5.trans (hb6.mono (by have := hM5.hle; omega))⟩
      · have hfull : Hid (redTo M n cols.toNat = redTo M n c) := by
          have h1 := redTo_full (M := M) (n := n) (c := c) (by rw [← hr.out]; omega) (cols.toNat - c)
          rw [show c + (cols.toNat - c) = cols.toNat by omega] at h1
          exact h1
        have hrni : ¬ (r : Int) < n := by omega
        clear hrn
        go_wp2
        go_ret
        refine ⟨P, r, pc, rfl, ?_, hbel⟩
        rw [hfull.out]
        exact ⟨K', G', hr, hown, hM⟩
    · have hcols : Hid (cols.toNat = c) := by have := hgk.out; unfold Hid; omega
      go_wp2
      go_ret
      refine ⟨P, r, pc, rfl, ?_, hbel⟩
      rw [hcols.out]
      exact ⟨K', G', hr, hown, hM⟩
end Go.Proofs.Ytcodgamhgfafnaa
