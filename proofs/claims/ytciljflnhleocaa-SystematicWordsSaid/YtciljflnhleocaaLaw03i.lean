/-
  THE DOCUMENT's OWN Reduce OF ROWS, first part: Copy's result is a slice that is never nil; the rows' copies make a matrix. Rows of at most 2^30.
-/
import Derived.Test.YtciljflnhleocaaLaw03h
import Derived.Test.YtciljflnhleocaaLaw03f
namespace Go.Proofs.Ytciljflnhleocaa
open Go.RowKit
set_option maxRecDepth 100000
set_option linter.unusedVariables false

set_option maxHeartbeats 400000 in
theorem Copy_s (A : Option Addr) (n c : Nat) (l : List F) (w : World) (h : Row w A n l) (hn : n ≤ 140737488355328) :
    Calls Try.prog 26 #[.slice A n c] w fun e w' => ∃ g c', e = .returned (.slice (some ⟨g, 0, none⟩) n c') ∧ w'.ownsRow w.heap.size 5 1 (.slice (some ⟨g, 0, none⟩) n c') n (cs l) ∧ Below w.heap.size w w' := by
  obtain ⟨i0, hi, hz0, hz1, hz2⟩ := info_parts info_u8
  cases A with
  | none =>
    obtain ⟨rfl, rfl⟩ := h.none_nil
    go_enter Try.func26, Try.ntmps26
    go_wp2
    go_ret
    exact ⟨_, 0, rfl, World.ownsRow_made w #[] 0 (Nat.le_refl _) (Nat.zero_le _) rfl, (Below.refl _ _).alloc (Nat.le_refl _) _⟩
  | some ad =>
    have hl := h.len
    have hm := h.max
    have HC := Lib.hid (h.alloc (.cells #[] 5)).cells
    have HL := Lib.hid hl
    clear hl
    go_enter Try.func26, Try.ntmps26
    go_wp2_with (at_builtin; refine wpList_append_own _ rfl _ _ 23 rfl w.heap.size 5 i0 (.int .u8 0) 1 1 Try.underlying23 hi hz0 hz1 hz2 rfl (by decide) _ _ _ rfl (World.ownsRow_made w #[] 0 (Nat.le_refl _) (Nat.zero_le _) rfl) ad n c (cs l) rfl (by rw [cs_length, HL.out, Nat.mul_one]) HC.out (cs_one l) (by unfold maxLen; omega) (by omega) (by simp) ?_; intro v' w1 hown hgrow hnil)
    have h2 := hown.2
    rw [Nat.zero_add] at h2 hown
    rcases h2 with ⟨hv, _⟩ | ⟨g, c', cur, hv, _⟩
    · have := (hnil.1 hv).1
      injection this with this
      cases this
    · subst hv
      go_wp2
      go_ret
      refine ⟨g, c', rfl, hown, ?_⟩
      exact ((Below.refl _ w).alloc (Nat.le_refl _) _).grown hgrow (by simp) (fun k hk => by cases hk; exact Nat.le_refl _)
theorem own_caps {w : World} {base n c g : Nat} {e : TypeId} {xs : List Value} (h : w.ownsRow base e 1 (.slice (some ⟨g, 0, none⟩) n c) n xs) : n ≤ c ∧ c ≤ maxLen := by
  rcases h.2 with ⟨e, _⟩ | ⟨g', cap', cur, e, _, _, h1, h2, _⟩
  · injection e with e; cases e
  · injection e with _ _ e; subst e; exact ⟨h1, h2⟩
theorem cs_getD {l : List F} {i : Nat} (h : i < l.length) : (cs l).getD i undef = .int .u8 (gt l i).n := by
  rw [List.getD_eq_getElem?_getD]
  unfold cs
  rw [List.getElem?_map, List.getElem?_eq_getElem h, gt_lt h]
  rfl
/-- the copies of the first k rows -/
structure Bld (w : World) (lo g k cg L : Nat) (K G : Nat → Nat) (R : Nat → List F) : Prop where
  top : w.ownsRow lo 23 1 (.slice (some ⟨g, 0, none⟩) k cg) k (topL (fun r => some ⟨G r, 0, none⟩) (fun _ => L) K k)
  rows : ∀ r, r < k → RowV w (G r) L fun j => .int .u8 (gt (R r) j).n
  inj : ∀ r s, r < k → s < k → G r = G s → r = s
  gne : ∀ r, r < k → G r ≠ g
  low : ∀ r, r < k → lo ≤ G r
  cap : ∀ r, r < k → L ≤ K r ∧ K r ≤ maxLen
theorem topG_more (G K : Nat → Nat) (L k g3 c3 : Nat) : topL (fun r => some (⟨if r = k then g3 else G r, 0, none⟩ : Addr)) (fun _ => L) (fun r => if r = k then c3 else K r) (k + 1) = topL (fun r => some ⟨G r, 0, none⟩) (fun _ => L) K k ++ [.slice (some ⟨g3, 0, none⟩) L c3] := by
  have h := topL_more (RA := fun r => some ⟨G r, 0, none⟩) (RL := fun _ => L) (RC := K) (n := k) (some ⟨g3, 0, none⟩) L c3
  rw [← h]
  congr 1
  · funext r
    by_cases e : r = k
    · simp only [if_pos e]
    · simp only [if_neg e]
  · funext r
    by_cases e : r = k
    · simp only [if_pos e]
    · simp only [if_neg e]
theorem Bld.step {wr w3 w5 : World} {o : Obj} {lo g k cg L g3 c3 g5 c5 : Nat} {K G : Nat → Nat} {R : Nat → List F} (hB : Bld wr lo g k cg L K G R) (hb : Below wr.heap.size wr w3)
    (hrow : w3.ownsRow wr.heap.size 5 1 (.slice (some ⟨g3, 0, none⟩) L c3) L (cs (R k)))
    (h5 : w5.ownsRow lo 23 1 (.slice (some ⟨g5, 0, none⟩) (k + 1) c5) (k + 1) (topL (fun r => some ⟨G r, 0, none⟩) (fun _ => L) K k ++ [.slice (some ⟨g3, 0, none⟩) L c3]))
    (hg : (w3.alloc o).grownBy w5 (some g)) (hat : some g = some g5 ∨ g5 = w3.heap.size + 1) (hlo : lo ≤ wr.heap.size) :
    Bld w5 lo g5 (k + 1) c5 L (fun r => if r = k then c3 else K r) (fun r => if r = k then g3 else G r) R := by
  have hg0 : g < wr.heap.size := (hB.top.lt g rfl).2
  have h3 := (hrow.lt g3 rfl)
  have hs := hb.size
  have hlen : (R k).length = L := own_len hrow
  have hgr : ∀ r, r < k → G r < wr.heap.size := fun r hr => (hB.rows r hr).lt
  have hg5 : ∀ x, x < w3.heap.size → x ≠ g → x ≠ g5 := fun x h1 h2 e => by
    rcases hat with e2 | e2
    · injection e2 with e2; omega
    · omega
  refine ⟨?_, fun r hr => ?_, fun r s hr hs2 e => ?_, fun r hr => ?_, fun r hr => ?_, fun r hr => ?_⟩
  · rw [topG_more]; exact h5
  · by_cases e : r = k
    · subst e
      simp only [if_pos]
      have h1 := (RowV.own hrow).congr (g := fun j => .int .u8 (gt (R r) j).n) fun i hi => cs_getD (by omega)
      exact (h1.alloc o).kept hg (fun e => by injection e with e; omega)
    · simp only [if_neg e]
      have h1 := (hB.rows r (by omega)).below hb (hgr r (by omega))
      exact (h1.alloc o).kept hg (fun e2 => by injection e2 with e2; exact hB.gne r (by omega) e2.symm)
  · by_cases e1 : r = k
    · by_cases e2 : s = k
      · omega
      · simp only [if_pos e1, if_neg e2] at e
        have := hgr s (by omega)
        omega
    · by_cases e2 : s = k
      · simp only [if_neg e1, if_pos e2] at e
        have := hgr r (by omega)
        omega
      · simp only [if_neg e1, if_neg e2] at e
        exact hB.inj r s (by omega) (by omega) e
  · by_cases e : r = k
    · simp only [if_pos e]
      exact hg5 g3 h3.2 (by omega)
    · simp only [if_neg e]
      exact hg5 (G r) (by have := hgr r (by omega); omega) (hB.gne r (by omega))
  · by_cases e : r = k
    · simp only [if_pos e]; omega
    · simp only [if_neg e]; exact hB.low r (by omega)
  · by_cases e : r = k
    · simp only [if_pos e]; exact own_caps hrow
    · simp only [if_neg e]; exact hB.cap r (by omega)
theorem Bld.mat {w : World} {lo g n cg L : Nat} {K G : Nat → Nat} {R : Nat → List F} (h : Bld w lo g n cg L K G R) : Mat w lo w.heap.size g n L K G (mat R) :=
  ⟨(RowV.own h.top).congr fun i hi => by rw [List.getD_eq_getElem?_getD, topL_at hi]; rfl, fun r hr => h.rows r hr, h.inj, h.gne, h.top.lt g rfl, fun r hr => ⟨h.low r hr, (h.rows r hr).lt⟩, h.cap, by have := own_caps h.top; omega, Nat.le_refl _⟩
end Go.Proofs.Ytciljflnhleocaa
