/-
  THE CONTRACTS OF little's READER: what is read, and what it is behind. The reader is a block of its own.
-/
import Derived.Test.YtekpmpgolpghiaaLitA
import Derived.Test.YtekpmpgolpghiaaOut
namespace Go.Proofs.Ytekpmpgolpghiaa
open Go.RowKit
set_option maxRecDepth 100000
set_option linter.unusedVariables false

/-- a reader: its bytes, how many were read, was too much asked for -/
structure Rdr (w : World) (p : Nat) (A : Option Addr) (len cap : Nat) (l : List F) (at_ : Nat) (sh : Bool) : Prop where
  blk : Blk w p 67 #[.slice A len cap, .int .i64 at_, .bool sh]
  row : RowIn w A len cap l
  le : at_ ≤ len
  ne : ∀ b o, A = some ⟨b, o, none⟩ → b ≠ p
theorem Rdr.lt {w : World} {p : Nat} {A : Option Addr} {len cap : Nat} {l : List F} {at_ : Nat} {sh : Bool} (h : Rdr w p A len cap l at_ sh) : p < w.heap.size := (Array.getElem?_eq_some_iff.1 h.blk).1
theorem Rdr.drewN {w : World} {p : Nat} {A : Option Addr} {len cap : Nat} {l : List F} {at_ : Nat} {sh : Bool} (h : Rdr w p A len cap l at_ sh) (q : Nat) : Rdr (w.drewN q) p A len cap l at_ sh := ⟨h.blk, h.row.drewN q, h.le, h.ne⟩
theorem Rdr.below {w w' : World} {p : Nat} {A : Option Addr} {len cap : Nat} {l : List F} {at_ : Nat} {sh : Bool} (h : Rdr w p A len cap l at_ sh) (hb : Below w.heap.size w w') : Rdr w' p A len cap l at_ sh := ⟨h.blk.below h.lt hb, h.row.below hb, h.le, h.ne⟩
theorem Out.drewN (lo hi : Nat) (w : World) (q : Nat) : Out lo hi w (w.drewN q) := ⟨rfl, rfl, rfl, Nat.le_refl _, fun _ _ _ => rfl⟩
theorem Out.setCell {p : Nat} {w w' : World} (h : Out p (p + 1) w w') (i : Nat) (v : Value) : Out p (p + 1) w (w'.setCell ⟨p, i, none⟩ v) :=
  h.trans ⟨rfl, rfl, rfl, by simp [World.setCell], fun k _ ho => Below.heap_setCell _ _ _ _ (fun e => by simp at e; omega)⟩
theorem Row.setOther {w : World} {A : Option Addr} {n : Nat} {l : List F} (h : Row w A n l) {a : Addr} (hne : ∀ b o, A = some ⟨b, o, none⟩ → b ≠ a.block) (v : Value) : Row (w.setCell a v) A n l := by
  refine ⟨h.1, h.2.1, fun hn => ?_⟩
  obtain ⟨b, o, e, hl, hc⟩ := h.2.2 hn
  refine ⟨b, o, e, by simpa [World.setCell] using hl, fun i hi => ?_⟩
  rw [World.cell?_of_block (a := ⟨b, o + i, none⟩) (Go.Deep.blk_setCell_other w a v b (hne b o e))]
  exact hc i hi
theorem Rdr.set2 {w : World} {p : Nat} {A : Option Addr} {len cap : Nat} {l : List F} {at_ : Nat} {sh : Bool} (h : Rdr w p A len cap l at_ sh) (b : Bool) : Rdr (w.setCell ⟨p, 2, none⟩ (.bool b)) p A len cap l at_ b :=
  ⟨h.blk.set_ 2 (.bool b), ⟨h.row.row.setOther h.ne _, h.row.le, h.row.max⟩, h.le, h.ne⟩
theorem Rdr.set1 {w : World} {p : Nat} {A : Option Addr} {len cap : Nat} {l : List F} {at_ m : Nat} {sh : Bool} (h : Rdr w p A len cap l at_ sh) (hm : m ≤ len) : Rdr (w.setCell ⟨p, 1, none⟩ (.int .i64 m)) p A len cap l m sh :=
  ⟨h.blk.set_ 1 (.int .i64 m), ⟨h.row.row.setOther h.ne _, h.row.le, h.row.max⟩, hm, h.ne⟩
/-- a part of a row, as a slice of it reads -/
theorem RowIn.slice {w : World} {A : Option Addr} {len cap a M : Nat} {l : List F} (h : RowIn w A len cap l) (h1 : a ≤ M) (h2 : M ≤ len) :
    (cap = a → RowIn w A (M - a) 0 ((l.drop a).take (M - a))) ∧ (¬ cap = a → RowIn w (A.map fun x => x.add a) (M - a) (cap - a) ((l.drop a).take (M - a))) := by
  have hl := h.row.len
  have hc := h.le
  have hm := h.max
  constructor
  · intro e
    have e0 : M - a = 0 := by omega
    rw [e0, List.take_zero]
    exact ⟨Row.nil w A, by omega, by omega⟩
  · intro e
    refine ⟨⟨by simp; omega, by omega, fun hn => ?_⟩, by omega, by omega⟩
    obtain ⟨b, o, rfl, hb, hcell⟩ := h.row.2.2 (by omega)
    refine ⟨b, o + a, by simp [Addr.add], hb, fun i hi => ?_⟩
    have := hcell (a + i) (by omega)
    rw [show o + a + i = o + (a + i) by omega, this, gt_take, if_pos hi, gt_drop]
section
variable {w : World} {p : Nat} {A : Option Addr} {len cap : Nat} {l : List F} {at_ : Nat} {sh : Bool}
theorem Left_c (h : Rdr w p A len cap l at_ sh) : Calls Try.prog 20 #[.pointer (some ⟨p, 0, none⟩)] w fun e w' => e = .returned (.int .i64 ((len - at_ : Nat) : Int)) ∧ ∃ q, w' = w.drewN q := by
  have c0 := h.blk.cell 0
  have c1 := h.blk.cell 1
  have hle := h.le
  have hm := h.row.row.max
  simp at c0 c1
  have hsub : IntKind.i64.wrap ((len : Int) - (at_ : Int)) = ((len - at_ : Nat) : Int) := (IntWalk.i64_in _ (by omega)).trans (by omega)
  go_enter Try.func20, Try.ntmps20
  go_wp2
  go_quiet (fail)
  go_wp2
  go_ret
  exact ⟨rfl, _, rfl⟩
theorem At_c (h : Rdr w p A len cap l at_ sh) : Calls Try.prog 21 #[.pointer (some ⟨p, 0, none⟩)] w fun e w' => e = .returned (.int .i64 at_) ∧ w = w' := by
  have c1 := h.blk.cell 1
  simp at c1
  go_enter Try.func21, Try.ntmps21
  go_wp2
  go_ret
  exact ⟨rfl, rfl⟩
theorem Short_c (h : Rdr w p A len cap l at_ sh) : Calls Try.prog 22 #[.pointer (some ⟨p, 0, none⟩)] w fun e w' => e = .returned (.bool sh) ∧ w = w' := by
  have c2 := h.blk.cell 2
  simp at c2
  go_enter Try.func22, Try.ntmps22
  go_wp2
  go_ret
  exact ⟨rfl, rfl⟩
set_option maxHeartbeats 1000000 in
theorem next_ok (h : Rdr w p A len cap l at_ false) (n : Nat) (hn : at_ + n ≤ len) :
    Calls Try.prog 48 #[.pointer (some ⟨p, 0, none⟩), .int .i64 n] w fun e w' => ∃ A' c', e = .returned (.slice A' n c') ∧ RowIn w' A' n c' ((l.drop at_).take n) ∧ Rdr w' p A len cap l (at_ + n) false ∧ Out p (p + 1) w w' := by
  have c0 := h.blk.cell 0
  have c1 := h.blk.cell 1
  have c2 := h.blk.cell 2
  have f1 := h.blk.frozen 1
  have f2 := h.blk.frozen 2
  simp at c0 c1 c2
  have hm := h.row.row.max
  go_enter Try.func48, Try.ntmps48
  go_wp2_with (go_at_call 20; refine (Left_c h).mono ?_; rintro e w' ⟨rfl, q, rfl⟩)
  have hR : Rdr (((w.drewN q).setCell ⟨p, 2, none⟩ (.bool false)).setCell ⟨p, 1, none⟩ (.int .i64 (((at_ + n : Nat) : Nat) : Int))) p A len cap l (at_ + n) false := ((h.drewN q).set2 false).set1 (by omega)
  have hO : Out p (p + 1) w (((w.drewN q).setCell ⟨p, 2, none⟩ (.bool false)).setCell ⟨p, 1, none⟩ (.int .i64 (((at_ + n : Nat) : Nat) : Int))) := ((Out.drewN _ _ w q).setCell 2 _).setCell 1 _
  have hM : ((at_ : Int) + (n : Int)) = ((at_ + n : Nat) : Int) := by omega
  rw [hM]
  have hMn : Hid (at_ + n - at_ = n) := by unfold Hid; omega
  have hM1 : at_ ≤ at_ + n := by omega
  obtain ⟨M, HM⟩ : ∃ M, Hid (at_ + n = M) := ⟨_, rfl⟩
  rw [HM.out] at hn hR hO hMn hM1 ⊢
  clear hM c0 c1 c2 f1 f2 h
  generalize (((w.drewN q).setCell ⟨p, 2, none⟩ (.bool false)).setCell ⟨p, 1, none⟩ (.int .i64 (M : Int))) = W at *
  have c0 := hR.blk.cell 0
  have c1 := hR.blk.cell 1
  simp at c0 c1
  have hlc := hR.row.le
  have b1 : (at_ : Int) ≤ (M : Int) := by omega
  have b2 : (M : Int) ≤ (cap : Int) := by omega
  have hrow := hR.row.slice hM1 hn
  have HR := Lib.hid hrow
  clear hrow
  by_cases hcap : cap = at_
  · have hr := HR.out.1 hcap
    rw [hMn.out] at hr
    have HR2 := Lib.hid hr
    clear hr HR
    go_quiet (fail)
    go_wp2
    go_ret
    rw [HM.out, hMn.out]
    exact ⟨_, _, rfl, HR2.out.drewN _, hR.drewN _, hO.trans (Out.drewN _ _ _ _)⟩
  · have hr := HR.out.2 hcap
    rw [hMn.out] at hr
    have HR2 := Lib.hid hr
    clear hr HR
    go_quiet (fail)
    go_wp2
    go_ret
    rw [HM.out, hMn.out]
    exact ⟨_, _, rfl, HR2.out.drewN _, hR.drewN _, hO.trans (Out.drewN _ _ _ _)⟩
set_option maxHeartbeats 1000000 in
theorem next_no (h : Rdr w p A len cap l at_ sh) (n : Nat) (hn : sh = true ∨ len - at_ < n) :
    Calls Try.prog 48 #[.pointer (some ⟨p, 0, none⟩), .int .i64 n] w fun e w' => e = .returned (.slice none 0 0) ∧ Rdr w' p A len cap l at_ true ∧ Out p (p + 1) w w' := by
  have c0 := h.blk.cell 0
  have c1 := h.blk.cell 1
  have c2 := h.blk.cell 2
  have f1 := h.blk.frozen 1
  have f2 := h.blk.frozen 2
  simp at c0 c1 c2
  have hm := h.row.row.max
  cases sh with
  | true =>
    go_enter Try.func48, Try.ntmps48
    go_wp2
    go_ret
    exact ⟨rfl, h.set2 true, (Out.refl _ _ w).setCell 2 _⟩
  | false =>
    have hn2 : len - at_ < n := by rcases hn with h | h; cases h; exact h
    go_enter Try.func48, Try.ntmps48
    go_wp2_with (go_at_call 20; refine (Left_c h).mono ?_; rintro e w' ⟨rfl, q, rfl⟩)
    go_ret
    exact ⟨rfl, (h.drewN q).set2 true, (Out.drewN _ _ w q).setCell 2 _⟩
end
end Go.Proofs.Ytekpmpgolpghiaa
