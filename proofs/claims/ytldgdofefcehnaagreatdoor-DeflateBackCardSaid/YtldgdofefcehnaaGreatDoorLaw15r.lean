/-
  THE DOCUMENT's STORED FORM, AND ITS SIZE. No conditions but how many bytes there are.
-/
import Derived.Test.YtldgdofefcehnaaGreatDoorDfg
namespace Go.Proofs.YtldgdofefcehnaaGreatDoor
open Go.RowKit
set_option maxRecDepth 1000000
set_option linter.unusedVariables false
theorem allF_pack {Y : List Bool} {l : List F} {M : Nat} (h : unpF (pack Y) M = .ok ⟨Y.length, l⟩) : allF (pack Y) M = .ok l := by
 unfold allF
 rw [h]
 show (if (Y.length + 7) / 8 < (pack Y).length then (Except.error 22 : Except Nat (List F)) else Except.ok l) = _
 rw [if_neg (by rw [pack_length]; omega)]
theorem un_stored {l : List F} (hl : l.length ≤ 65535) {M : Nat} (hM : l.length ≤ M) : unpF (pack (stoB [] l true)) M = .ok ⟨(stoB [] l true).length, l⟩ := by
 have h1 := (UpTo.nil M).done (BkS.sto (last := true) (X := []) (b := l) (o := []) hl (by simpa using hM))
 simpa using h1
theorem sto_size {l : List F} (hl : l.length ≤ 65535) : (pack (stoB [] l true)).length = l.length + 5 := by
 rw [pack_length, stoB_len]
 simp
 omega
theorem RStoredSize_c (n : Int) (w : World) : Calls Tryz.prog 15 #[.int .i64 n] w fun e w' => e = .returned (.int .i64 (stsF n)) ∧ w = w' := by
 have hH : Calls Tryz.prog 47 #[.int .i64 n, .int .i64 0, .int .i64 1099511627776] w fun e w' => e = .returned (.int .i64 (hN n 1099511627776 : Nat)) ∧ w = w' := heldR_c n 1099511627776 w
 have hx0 : min (max n 0) 1099511627776 = ((hN n 1099511627776 : Nat) : Int) := by unfold hN; omega
 obtain ⟨x, hx⟩ : ∃ x, x = hN n 1099511627776 := ⟨_, rfl⟩
 rw [← hx] at hH hx0
 have hxl : x ≤ 1099511627776 := by omega
 have HH := Lib.hid hH
 by_cases h0 : x = 0
 ·have z0 : ((x : Int) == 0) = true := by rw [beq_iff_eq]; omega
  have hE : Hid (stsF n = 5) := by unfold Hid stsF; rw [hx0]; omega
  rw [hE.out]
  clear hH hx hx0 h0
  go_enter Tryz.func15, Tryz.ntmps15
  go_wp2_with fail
  refine HH.out.mono ?_
  rintro e _ ⟨rfl, rfl⟩
  go_wp2
  go_ret
  exact ⟨rfl, rfl⟩
 ·have z0 : ((x : Int) == 0) = false := by rw [beq_eq_false_iff_ne]; omega
  obtain ⟨u, hu⟩ : ∃ u, u = x - 1 := ⟨_, rfl⟩
  obtain ⟨q, hq⟩ : ∃ q, q = u / 65535 := ⟨_, rfl⟩
  obtain ⟨r, hr⟩ : ∃ r, r = q + 1 := ⟨_, rfl⟩
  have hE : Hid (stsF n = (x : Int) + 5 * (r : Int)) := by unfold Hid stsF; rw [hx0]; omega
  have hu1 : (x : Int) - 1 = (u : Int) := by omega
  have hq1 : (u : Int) / 65535 = (q : Int) := by omega
  have hq2 : (u : Int).tdiv 65535 = (q : Int) := by rw [Int.tdiv_eq_ediv_of_nonneg (by omega)]; exact hq1
  have hr1 : (q : Int) + 1 = (r : Int) := by omega
  have hrl : r ≤ 17000000 := by omega
  rw [hE.out]
  clear hH hx hx0 h0 hu hq hr
  go_enter Tryz.func15, Tryz.ntmps15
  go_wp2_with fail
  refine HH.out.mono ?_
  rintro e _ ⟨rfl, rfl⟩
  go_wp2
  go_ret
  exact ⟨rfl, rfl⟩
set_option maxHeartbeats 2000000 in
theorem RStored15_c (w : World) (B : Option Addr) (m cb : Nat) (l : List F) (hl : Row w B m l) (hm : m ≤ 10000) :
  Calls Tryz.prog 16 #[.slice B m cb] w fun e w' => ∃ A n c, e = .returned (.slice A n c) ∧ n = (pack (stoB [] l true)).length ∧ w'.ownsRow w.heap.size 5 1 (.slice A n c) n (cs (pack (stoB [] l true))) ∧ Below w.heap.size w w' := by
 have hm1 : ¬ (65535 : Int) < (m : Int) := by omega
 have HB0 : Hid (Below w.heap.size w (w.alloc (.cells #[] 5))) := (Below.refl _ _).alloc (Nat.le_refl _) _
 have HL := Lib.hid (hl.below HB0.out)
 have HLN := Lib.hid hl.len
 clear hl
 go_enter Tryz.func16, Tryz.ntmps16
 go_wp2
 generalize w.alloc (.cells #[] 5) = W0 at *
 go_loopw [0, 3] (fun vb v3 wr => vb = .slice B m cb ∧ v3 = .slice (some ⟨w.heap.size, 0, none⟩) 0 0 ∧ W0 = wr) (fun _ _ _ => 0)
 case atStart => exact ⟨rfl, rfl, rfl⟩
 case round =>
  obtain ⟨rfl, rfl, rfl⟩ := hrel
  go_wp2_with fail
  refine (RStored_c (some ⟨w.heap.size, 0, none⟩) 0 0 [] W0 (Row.nil W0 _) (by omega) B m cb l HL.out hm true).mono ?_
  rintro e w1 ⟨A1, c1, n1, rfl, hown1, hb1⟩
  have hn1 : n1 = (stoB [] l true).length := by have := own_len hown1; rw [bc_length] at this; exact this.symm
  have hn1l : n1 ≤ 1000000 := by rw [hn1, stoB_len, HLN.out]; simp; omega
  have HR1 := Lib.hid (Row.of_own hown1)
  have HB1 := Lib.hid (HB0.out.trans (hb1.mono HB0.out.size))
  clear hown1 hb1 hn1
  go_wp2_with fail
  refine (RefPack_c A1 n1 c1 (stoB [] l true) w1 HR1.out hn1l).mono ?_
  rintro e w2 ⟨A2, c2, n2, rfl, -, hown2, hb2⟩
  have HO := Lib.hid (own_base hown2 HB1.out.size)
  have HN := Lib.hid (own_len hown2)
  have HB2 := Lib.hid (HB1.out.trans (hb2.mono HB1.out.size))
  clear hown2 hb2
  go_wp2
  go_ret
  exact ⟨A2, n2, c2, rfl, HN.out.symm, HO.out, HB2.out⟩
theorem MetR.ways {l : List F} {level : Int} {lev z : Nat} {o : List F} (h : MetR l level lev z o) : (z = 0 ∧ o = l) ∨ (z = 8 ∧ 0 < level ∧ o.length < l.length ∧ ∃ Y, PackR (fdF l lev) l Y ∧ o = pack Y) := by
 unfold MetR at h
 split at h
 ·rename_i h0
  obtain ⟨Y, h1, h2⟩ := h
  split at h2
  ·rename_i h3
   exact .inr ⟨h2.1, h0, by rw [h2.2]; exact h3, Y, h1, h2.2⟩
  ·exact .inl h2
 ·exact .inl h
def PacE (l : List F) (level : Int) (lev : Nat) (Y : List Bool) : Prop := if 0 < level then PackR (fdF l lev) l Y else Y = stoB [] l true
theorem PacE.un {l : List F} {level : Int} {lev : Nat} {Y : List Bool} (h : PacE l level lev Y) (hl : l.length ≤ 65535) {M : Nat} (hM : l.length ≤ M) : unpF (pack Y) M = .ok ⟨Y.length, l⟩ := by
 unfold PacE at h
 split at h
 ·exact h.un2 (fd_good l lev) hl hM
 ·rw [h]; exact un_stored hl hM
theorem PacE.len {l : List F} {level : Int} {lev : Nat} {Y : List Bool} (h : PacE l level lev Y) (hl : l.length ≤ 65535) : (pack Y).length ≤ l.length + 5 := by
 unfold PacE at h
 split at h
 ·rw [pack_length]; have := h.len.1; omega
 ·rw [h, sto_size hl]; exact Nat.le_refl _
theorem PackE_c (w : World) (htb : Tabs w) (B : Option Addr) (m cb : Nat) (l : List F) (hl : RowIn w B m cb l) (hm : m ≤ 1000) (level : Int) (lev : Nat) (hlev : min (max level 0) 9 = (lev : Int)) :
  Calls Tryz.prog 12 #[.slice B m cb, .int .i64 level] w fun e w' => ∃ A' len' c' Y, e = .returned (.slice A' len' c') ∧ PacE l level lev Y ∧ len' = (pack Y).length ∧ w'.ownsRow w.heap.size 5 1 (.slice A' len' c') len' (cs (pack Y)) ∧ Below w.heap.size w w' := by
 by_cases h0 : 0 < level
 ·refine (Pack_c w htb B m cb l hl hm level h0 lev hlev).mono ?_
  rintro e w' ⟨A', len', c', Y, he, hY, hn, ho, hb⟩
  exact ⟨A', len', c', Y, he, by unfold PacE; rw [if_pos h0]; exact hY, hn, ho, hb⟩
 ·refine (Pack0_c w B m cb l hl (by omega) level h0).mono ?_
  rintro e w' ⟨A', len', c', he, hn, ho, hb⟩
  exact ⟨A', len', c', _, he, by unfold PacE; rw [if_neg h0], hn, ho, hb⟩
end Go.Proofs.YtldgdofefcehnaaGreatDoor
