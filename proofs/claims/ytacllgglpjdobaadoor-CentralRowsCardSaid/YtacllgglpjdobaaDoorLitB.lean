/-
  THE CONTRACTS OF little's READER: what is read, and what it is behind. The reader is a block of its own.
-/
import Derived.Test.YtacllgglpjdobaaDoorBits
import Derived.Test.YtacllgglpjdobaaDoorBase
namespace Go.Proofs.YtacllgglpjdobaaDoor
open Go.RowKit
set_option maxRecDepth 100000
set_option linter.unusedVariables false

/-- a reader: its bytes, how many were read, was too much asked for -/
structure Rdr (w : World) (p : Nat) (A : Option Addr) (len cap : Nat) (l : List F) (at_ : Nat) (sh : Bool) : Prop where
  blk : Blk w p 110 #[.slice A len cap, .int .i64 at_, .bool sh]
  row : RowIn w A len cap l
  le : at_ ≤ len
  ne : ∀ b o, A = some ⟨b, o, none⟩ → b ≠ p
theorem Rdr.lt {w : World} {p : Nat} {A : Option Addr} {len cap : Nat} {l : List F} {at_ : Nat} {sh : Bool} (h : Rdr w p A len cap l at_ sh) : p < w.heap.size := (Array.getElem?_eq_some_iff.1 h.blk).1
theorem Rdr.drewN {w : World} {p : Nat} {A : Option Addr} {len cap : Nat} {l : List F} {at_ : Nat} {sh : Bool} (h : Rdr w p A len cap l at_ sh) (q : Nat) : Rdr (w.drewN q) p A len cap l at_ sh := ⟨h.blk, h.row.drewN q, h.le, h.ne⟩
theorem Rdr.below {w w' : World} {p : Nat} {A : Option Addr} {len cap : Nat} {l : List F} {at_ : Nat} {sh : Bool} (h : Rdr w p A len cap l at_ sh) (hb : Below w.heap.size w w') : Rdr w' p A len cap l at_ sh := ⟨h.blk.below h.lt hb, h.row.below hb, h.le, h.ne⟩
theorem Rdr.set2 {w : World} {p : Nat} {A : Option Addr} {len cap : Nat} {l : List F} {at_ : Nat} {sh : Bool} (h : Rdr w p A len cap l at_ sh) (b : Bool) : Rdr (w.setCell ⟨p, 2, none⟩ (.bool b)) p A len cap l at_ b :=
  ⟨h.blk.set_ 2 (.bool b), ⟨h.row.row.setOther h.ne _, h.row.le, h.row.max⟩, h.le, h.ne⟩
theorem Rdr.set1 {w : World} {p : Nat} {A : Option Addr} {len cap : Nat} {l : List F} {at_ m : Nat} {sh : Bool} (h : Rdr w p A len cap l at_ sh) (hm : m ≤ len) : Rdr (w.setCell ⟨p, 1, none⟩ (.int .i64 m)) p A len cap l m sh :=
  ⟨h.blk.set_ 1 (.int .i64 m), ⟨h.row.row.setOther h.ne _, h.row.le, h.row.max⟩, hm, h.ne⟩
section
variable {w : World} {p : Nat} {A : Option Addr} {len cap : Nat} {l : List F} {at_ : Nat} {sh : Bool}
theorem Left_c (h : Rdr w p A len cap l at_ sh) : Calls Tryd.prog 69 #[.pointer (some ⟨p, 0, none⟩)] w fun e w' => e = .returned (.int .i64 ((len - at_ : Nat) : Int)) ∧ ∃ q, w' = w.drewN q := by
  have c0 := h.blk.cell 0
  have c1 := h.blk.cell 1
  have hle := h.le
  have hm := h.row.row.max
  simp at c0 c1
  have hsub : IntKind.i64.wrap ((len : Int) - (at_ : Int)) = ((len - at_ : Nat) : Int) := (IntWalk.i64_in _ (by omega)).trans (by omega)
  go_enter Tryd.func69, Tryd.ntmps69
  go_wp2
  go_quiet (fail)
  go_wp2
  go_ret
  exact ⟨rfl, _, rfl⟩
set_option maxHeartbeats 1000000 in
theorem next_ok (h : Rdr w p A len cap l at_ false) (n : Nat) (hn : at_ + n ≤ len) :
    Calls Tryd.prog 63 #[.pointer (some ⟨p, 0, none⟩), .int .i64 n] w fun e w' => ∃ A' c', e = .returned (.slice A' n c') ∧ RowIn w' A' n c' ((l.drop at_).take n) ∧ Rdr w' p A len cap l (at_ + n) false ∧ Out p (p + 1) w w' := by
  have c0 := h.blk.cell 0
  have c1 := h.blk.cell 1
  have c2 := h.blk.cell 2
  have f1 := h.blk.frozen 1
  have f2 := h.blk.frozen 2
  simp at c0 c1 c2
  have hm := h.row.row.max
  go_enter Tryd.func63, Tryd.ntmps63
  go_wp2_with (go_at_call 69; refine (Left_c h).mono ?_; rintro e w' ⟨rfl, q, rfl⟩)
  have hR : Rdr (((w.drewN q).setCell ⟨p, 2, none⟩ (.bool false)).setCell ⟨p, 1, none⟩ (.int .i64 (((at_ + n : Nat) : Nat) : Int))) p A len cap l (at_ + n) false := ((h.drewN q).set2 false).set1 (by omega)
  have hO : Out p (p + 1) w (((w.drewN q).setCell ⟨p, 2, none⟩ (.bool false)).setCell ⟨p, 1, none⟩ (.int .i64 (((at_ + n : Nat) : Nat) : Int))) := ((Out.drewN _ _ w q).setCell 2 _).setCell 1 _
  have hM : ((at_ : Int) + (n : Int)) = ((at_ + n : Nat) : Int) := by omega
  rw [hM]
  have hMn : Hid (at_ + n - at_ = n) := by unfold Hid; omega
  have hM1 : at_ ≤ at_ + n := by omega
  obtain ⟨M, HM⟩ : ∃ M, Hid (at_ + n = M) := ⟨_, rfl⟩
  rw [HM.out] at hn hR hO hMn hM1 ⊢
  clear hM c0 c1 c2 f1 f2 h
  generalize (((w.drewN q).setCell ⟨p, 2, none⟩ (.bool false)).setCell ⟨p, 1, none⟩ (.int .i64 (M : Int))) = W at *
  have c0 := hR.blk.cell 0
  have c1 := hR.blk.cell 1
  simp at c0 c1
  have hlc := hR.row.le
  have b1 : (at_ : Int) ≤ (M : Int) := by omega
  have b2 : (M : Int) ≤ (cap : Int) := by omega
  have hrow := hR.row.slice hM1 hn
  have HR := Lib.hid hrow
  clear hrow
  by_cases hcap : cap = at_
  · have hr := HR.out.1 hcap
    rw [hMn.out] at hr
    have HR2 := Lib.hid hr
    clear hr HR
    go_quiet (fail)
    go_wp2
    go_ret
    rw [HM.out, hMn.out]
    exact ⟨_, _, rfl, HR2.out.drewN _, hR.drewN _, hO.trans (Out.drewN _ _ _ _)⟩
  · have hr := HR.out.2 hcap
    rw [hMn.out] at hr
    have HR2 := Lib.hid hr
    clear hr HR
    go_quiet (fail)
    go_wp2
    go_ret
    rw [HM.out, hMn.out]
    exact ⟨_, _, rfl, HR2.out.drewN _, hR.drewN _, hO.trans (Out.drewN _ _ _ _)⟩
set_option maxHeartbeats 1000000 in
theorem next_no (h : Rdr w p A len cap l at_ sh) (n : Nat) (hn : sh = true ∨ len - at_ < n) :
    Calls Tryd.prog 63 #[.pointer (some ⟨p, 0, none⟩), .int .i64 n] w fun e w' => e = .returned (.slice none 0 0) ∧ Rdr w' p A len cap l at_ true ∧ Out p (p + 1) w w' := by
  have c0 := h.blk.cell 0
  have c1 := h.blk.cell 1
  have c2 := h.blk.cell 2
  have f1 := h.blk.frozen 1
  have f2 := h.blk.frozen 2
  simp at c0 c1 c2
  have hm := h.row.row.max
  cases sh with
  | true =>
    go_enter Tryd.func63, Tryd.ntmps63
    go_wp2
    go_ret
    exact ⟨rfl, h.set2 true, (Out.refl _ _ w).setCell 2 _⟩
  | false =>
    have hn2 : len - at_ < n := by rcases hn with h | h; cases h; exact h
    go_enter Tryd.func63, Tryd.ntmps63
    go_wp2_with (go_at_call 69; refine (Left_c h).mono ?_; rintro e w' ⟨rfl, q, rfl⟩)
    go_ret
    exact ⟨rfl, (h.drewN q).set2 true, (Out.drewN _ _ w q).setCell 2 _⟩
end
end Go.Proofs.YtacllgglpjdobaaDoor
