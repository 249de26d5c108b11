/-
  THE DOCUMENT's STORED FORM, AND ITS SIZE. No conditions but how many bytes there are.
-/
import Derived.Test.YtldgdofefcehnaaGreatDoorDfg
namespace Go.Proofs.YtldgdofefcehnaaGreatDoor
open Go.RowKit
set_option maxRecDepth 1000000
set_option linter.unusedVariables false
theorem allF_pack {Y : List Bool} {l : List F} {M : Nat} (h : unpF (pack Y) M = .ok ⟨Y.length, l⟩) : allF (pack Y) M = .ok l := by
 unfold allF
 rw [h]
 show (if (Y.length + 7) / 8 < (pack Y).length then (Except.error 22 : Except Nat (List F)) else Except.ok l) = _
 rw [if_neg (by rw [pack_length]; omega)]
theorem un_stored {l : List F} (hl : l.length ≤ 65535) {M : Nat} (hM : l.length ≤ M) : unpF (pack (stoB [] l true)) M = .ok ⟨(stoB [] l true).length, l⟩ := by
 have h1 := (UpTo.nil M).done (BkS.sto (last := true) (X := []) (b := l) (o := []) hl (by simpa using hM))
 simpa using h1
theorem sto_size {l : List F} (hl : l.length ≤ 65535) : (pack (stoB [] l true)).length = l.length + 5 := by
 rw [pack_length, stoB_len]
 simp
 omega
def PacE (l : List F) (level : Int) (lev : Nat) (Y : List Bool) : Prop := if 0 < level then PackR (fdF l lev) l Y else Y = stoB [] l true
theorem PacE.un {l : List F} {level : Int} {lev : Nat} {Y : List Bool} (h : PacE l level lev Y) (hl : l.length ≤ 65535) {M : Nat} (hM : l.length ≤ M) : unpF (pack Y) M = .ok ⟨Y.length, l⟩ := by
 unfold PacE at h
 split at h
 ·exact h.un2 (fd_good l lev) hl hM
 ·rw [h]; exact un_stored hl hM
theorem PacE.len {l : List F} {level : Int} {lev : Nat} {Y : List Bool} (h : PacE l level lev Y) (hl : l.length ≤ 65535) : (pack Y).length ≤ l.length + 5 := by
 unfold PacE at h
 split at h
 ·rw [pack_length]; have := h.len.1; omega
 ·rw [h, sto_size hl]; exact Nat.le_refl _
theorem PackE_c (w : World) (htb : Tabs w) (B : Option Addr) (m cb : Nat) (l : List F) (hl : RowIn w B m cb l) (hm : m ≤ 1000) (level : Int) (lev : Nat) (hlev : min (max level 0) 9 = (lev : Int)) :
  Calls Tryz.prog 12 #[.slice B m cb, .int .i64 level] w fun e w' => ∃ A' len' c' Y, e = .returned (.slice A' len' c') ∧ PacE l level lev Y ∧ len' = (pack Y).length ∧ w'.ownsRow w.heap.size 5 1 (.slice A' len' c') len' (cs (pack Y)) ∧ Below w.heap.size w w' := by
 by_cases h0 : 0 < level
 ·refine (Pack_c w htb B m cb l hl hm level h0 lev hlev).mono ?_
  rintro e w' ⟨A', len', c', Y, he, hY, hn, ho, hb⟩
  exact ⟨A', len', c', Y, he, by unfold PacE; rw [if_pos h0]; exact hY, hn, ho, hb⟩
 ·refine (Pack0_c w B m cb l hl (by omega) level h0).mono ?_
  rintro e w' ⟨A', len', c', he, hn, ho, hb⟩
  exact ⟨A', len', c', _, he, by unfold PacE; rw [if_neg h0], hn, ho, hb⟩
end Go.Proofs.YtldgdofefcehnaaGreatDoor
