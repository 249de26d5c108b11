/-
  THE CONTRACTS OF block's Fixed, FixedBits. No conditions.
-/
import Derived.Test.YtldgdofefcehnaaGreatDoorBlke
import Derived.Test.YtldgdofefcehnaaGreatDoorInfG
namespace Go.Proofs.YtldgdofefcehnaaGreatDoor
open Go.RowKit
set_option maxRecDepth 1000000
set_option linter.unusedVariables false
theorem codeAt_lt {l : List Int} (he : errC l l.length = 0) (s : Int) : codeAt l s < 4294967296 := by
 obtain ⟨_, h1, h2, _⟩ := errC_zero he
 have hr : RightL l := RightB_all h1
 unfold codeAt
 by_cases h3 : 0 ≤ s ∧ s < l.length
 ·rw [if_pos h3]
  by_cases h4 : gi l s.toNat = 0
  ·unfold codeN; rw [if_pos h4]; omega
  ·have h5 := hr s.toNat (by omega)
   have h6 := (codeN_lt hr h2 (i := s.toNat) (by omega) (by omega)).2
   have h7 := (lnN_int hr (i := s.toNat) (by omega)).2
   have h8 : 2 ^ lnN l s.toNat ≤ 2 ^ 15 := Nat.pow_le_pow_right (by decide) h7
   omega
 ·rw [if_neg h3]; omega
theorem IRow.wout {w w' : World} {A : Option Addr} {n p : Nat} {k : IntKind} {l : List Int} {a b : Option Nat} (h : IRow w A n k l) (ho : WOut p a b w w') (hA : ∀ b o, A = some ⟨b, o, none⟩ → b ≠ p ∧ a ≠ some b) : IRow w' A n k l :=
 ⟨h.len, h.max, fun hn => by
  obtain ⟨b, off, e, hl, hc⟩ := h.cells hn
  obtain ⟨h1, h2⟩ := hA b off e
  exact ⟨b, off, e, by have := ho.size; omega, fun i hi => (World.cell?_of_block (a := ⟨b, off + i, none⟩) (ho.block b hl h1 h2)).trans (hc i hi)⟩, h.wf⟩
theorem WOut.ofBelow {p : Nat} {a : Option Nat} {w w' : World} (h : Below w.heap.size w w') : WOut p a a w w' := ⟨h.os, h.tape, h.output, h.size, fun k hk _ _ => h.block k hk, .inl rfl⟩
def fixB (T : List Tok) (last : Bool) : List Bool := headB last 1 ++ (toksB fixL fixD T ++ symB fixL 256 0 0)
set_option maxHeartbeats 8000000 in
theorem FixedB_j {w : World} {p : Nat} {A : Option Addr} {len cap m : Nat} {X : List Bool} (h : Wr w p A len cap m X)
  (C : Option Addr) (N c : Nat) (T : List Tok) (hJ : ∀ W b, WOut p (Value.slice A len cap).ownBlock b w W → Tabs W ∧ TRow W C N T) (hN : N ≤ 1000) (hok : okF T = N) (last : Bool) (hroom : m + 128 * N + 400 ≤ 1000000) :
  Calls Tryz.prog 27 #[.pointer (some ⟨p, 0, none⟩), .slice C N c, .bool last] w fun e w' => e = .returned (.int .i64 0) ∧ ∃ A' len' cap' m', Wr w' p A' len' cap' m' (X ++ fixB T last) ∧ WOut p (Value.slice A len cap).ownBlock (Value.slice A' len' cap').ownBlock w w' := by
 have H := Lib.hid h
 have HJ := Lib.hid hJ
 have HROOM := Lib.hid hroom
 have HNN := Lib.hid hN
 have haw := anyWrong_c C N c T w (hJ w _ (WOut.refl _ _ _)).2 (by omega)
 rw [decide_eq_false (by omega : ¬ okF T < N)] at haw
 have HAW := Lib.hid haw
 clear h hJ haw hok
 go_enter Tryz.func27, Tryz.ntmps27
 go_wp2_with fail
 refine HAW.out.mono ?_
 rintro e w0' ⟨rfl, b0⟩
 have B0 := Lib.hid b0
 clear b0 HAW
 go_wp2_with fail
 refine (Rep_c 8 144 (by omega) (by omega) _ _ _ (by go_simp) rfl).mono ?_
 rintro e w1 ⟨g1, rfl, o1, b1⟩
 have B1 := Lib.hid (belA b1)
 have R1 := Lib.hid (rep_row (by omega) (by omega) o1)
 clear o1 b1
 go_wp2_with fail
 refine (Rep_c 9 112 (by omega) (by omega) _ _ _ (by go_simp) rfl).mono ?_
 rintro e w2 ⟨g2, rfl, o2, b2⟩
 have B2 := Lib.hid (belA b2)
 have R2 := Lib.hid (rep_row (by omega) (by omega) o2)
 clear o2 b2
 go_wp2_with fail
 refine (Rep_c 7 24 (by omega) (by omega) _ _ _ (by go_simp) rfl).mono ?_
 rintro e w3 ⟨g3, rfl, o3, b3⟩
 have B3 := Lib.hid (belA b3)
 have R3 := Lib.hid (rep_row (by omega) (by omega) o3)
 clear o3 b3
 go_wp2_with fail
 refine (Rep_c 8 8 (by omega) (by omega) _ _ _ (by go_simp) rfl).mono ?_
 rintro e w4 ⟨g4, rfl, o4, b4⟩
 have B4 := Lib.hid (belA b4)
 have R4 := Lib.hid (rep_row (by omega) (by omega) o4)
 clear o4 b4
 have R3' := Lib.hid (R3.out.below B4.out)
 have R2' := Lib.hid ((R2.out.below B3.out).below B4.out)
 have R1' := Lib.hid (((R1.out.below B2.out).below B3.out).below B4.out)
 have B14 : Hid (Below w.heap.size w w4) := by
  have s0 := B0.out.size
  have s1 := B1.out.size
  have s2 := B2.out.size
  have s3 := B3.out.size
  exact (((B0.out.trans (B1.out.mono s0)).trans (B2.out.mono (by omega))).trans (B3.out.mono (by omega))).trans (B4.out.mono (by omega))
 clear B0 B1 B2 B3 B4 R1 R2 R3
 go_wp2_with fail
 refine (Concat_c w4.heap.size 4 4 (fun i => some ⟨pick4 g1 g2 g3 g4 i, 0, none⟩) (fun i => pick4 144 112 24 8 i) (fun i => pick4 144 112 24 8 i) fixR _ (by simp) (by omega) (by omega) ?_ ?_ (by rw [fix_len]; omega)).mono ?_
 ·intro i hi
  have hb := (Blk.new w4 49 #[Value.slice (some ⟨g1, 0, none⟩) 144 144, Value.slice (some ⟨g2, 0, none⟩) 112 112, Value.slice (some ⟨g3, 0, none⟩) 24 24, Value.slice (some ⟨g4, 0, none⟩) 8 8]).cell i
  have h4 : i = 0 ∨ i = 1 ∨ i = 2 ∨ i = 3 := by omega
  rcases h4 with rfl | rfl | rfl | rfl
  ·exact hb
  ·exact hb
  ·exact hb
  ·exact hb
 ·intro i hi
  have h4 : i = 0 ∨ i = 1 ∨ i = 2 ∨ i = 3 := by omega
  rcases h4 with rfl | rfl | rfl | rfl
  ·exact ⟨R1'.out.alloc _, by decide⟩
  ·exact ⟨R2'.out.alloc _, by decide⟩
  ·exact ⟨R3'.out.alloc _, by decide⟩
  ·exact ⟨R4.out.alloc _, by decide⟩
 rintro e w5 ⟨g5, c5, N5, rfl, hN5, o5, b5⟩
 rw [fix_len] at hN5
 obtain rfl : N5 = 288 := hN5.out
 rw [fixR_cat] at o5
 have B5 := belA b5
 have hwf : ∀ i, i < 288 → (Lit.int .i64 (gi fixL i)).wf = true := by decide +kernel
 have R5 := IRow.ofOwn o5 hwf (by unfold maxLen; omega)
 have B15 := Lib.hid (B14.out.trans (B5.mono B14.out.size))
 have hg5 : w.heap.size ≤ g5 := by
  have h1 := (o5.lt g5 rfl).1
  have h2 := B14.out.size
  simp at h1
  omega
 have W5 := Lib.hid (H.out.below B15.out)
 have H5 : Hid (∀ b o, (some ⟨g5, 0, none⟩ : Option Addr) = some ⟨b, o, none⟩ → b ≠ p ∧ (Value.slice A len cap).ownBlock ≠ some b) := fun b o e => by
  injection e with e
  injection e with e1 _ _
  subst e1
  have h1 := H.out.lt
  exact ⟨by omega, fun e2 => by have := (H.out.own.lt _ e2).2; omega⟩
 clear R1' R2' R3' R4 hN5 o5 b5 B14 B5 hwf hg5
 have HR5 := Lib.hid R5
 clear R5
 go_wp2_with fail
 refine (begin_c W5.out 1 (by omega) last (by have := HROOM.out; omega)).mono ?_
 rintro e w6 ⟨rfl, A6, len6, cap6, hW6, hO6⟩
 have R6 := Lib.hid (HR5.out.wout hO6 H5.out)
 have W6 := Lib.hid hW6
 have O6 := Lib.hid ((WOut.ofBelow B15.out).trans hO6)
 clear hW6 hO6 HR5 W5 H5
 go_wp2_with fail
 refine (Rep_c 5 32 (by omega) (by omega) _ _ _ (by go_simp) rfl).mono ?_
 rintro e w7 ⟨g7, rfl, o7, b7⟩
 have B7 := Lib.hid (belA b7)
 have R7 := Lib.hid (rep_row (by omega) (by omega) o7)
 have R67 := Lib.hid (R6.out.below B7.out)
 have W7 := Lib.hid (W6.out.below B7.out)
 have O7 : Hid (WOut p (Value.slice A len cap).ownBlock (Value.slice A6 len6 cap6).ownBlock w w7) := O6.out.trans (WOut.ofBelow B7.out)
 clear o7 b7 R6 B7 W6 O6
 go_wp2_with fail
 refine (newCodesB_c _ 288 _ fixL _ 32 _ fixD w7 R67.out (by decide +kernel) R7.out (by decide +kernel)).mono ?_
 rintro e w8 ⟨q, gc, LA, lc, S, r, hc, LB, ld, R, rfl, ht, hlo, hu, hlu, b8⟩
 have W8 := Lib.hid (W7.out.below b8)
 have O8 : Hid (WOut p (Value.slice A len cap).ownBlock (Value.slice A6 len6 cap6).ownBlock w w8) := O7.out.trans (WOut.ofBelow b8)
 have HT8 := Lib.hid ht
 have HLO := Lib.hid hlo
 have HU8 := Lib.hid hu
 have HLU := Lib.hid hlu
 have HPB : Hid (p < w7.heap.size ∧ ∀ g, (Value.slice A6 len6 cap6).ownBlock = some g → g < w7.heap.size) := ⟨W7.out.lt, fun g hg => (W7.out.own.lt g hg).2⟩
 clear ht hlo hu hlu b8 R67 R7 W7 O7
 go_wp2_with fail
 refine (putToks_j W8.out C N c T (fun W b ho => HJ.out W b (O8.out.trans ho)) HT8.out HLO.out HU8.out HLU.out HPB.out.1 HPB.out.2 (codeAt_lt (by decide +kernel)) (codeAt_lt (by decide +kernel)) HNN.out (by have := HROOM.out; omega)).mono ?_
 rintro e w9 ⟨rfl, A9, len9, cap9, m9, hW9, hO9⟩
 have e9 : X ++ headB last 1 ++ toksB fixL fixD T ++ symB fixL 256 0 0 = X ++ fixB T last := by unfold fixB; simp only [List.append_assoc]
 rw [e9] at hW9
 have W9 := Lib.hid hW9
 have O9 := Lib.hid (O8.out.trans hO9)
 clear hW9 hO9 e9
 go_wp2
 go_ret
 exact ⟨rfl, A9, len9, cap9, m9, W9.out, O9.out⟩
theorem olderJ {w0 w : World} {p : Nat} {A : Option Addr} {len cap m : Nat} {X : List Bool} (h : Wr w p A len cap m X) (hb : Below w0.heap.size w0 w) (hp : w0.heap.size ≤ p) (htb : Tabs w0) {C : Option Addr} {N : Nat} {T : List Tok} (hT : TRow w0 C N T) :
  ∀ W b, WOut p (Value.slice A len cap).ownBlock b w W → Tabs W ∧ TRow W C N T := fun W b ho => ⟨htb.below (h.keeps ho hb hp), hT.below (h.keeps ho hb hp)⟩
theorem FixedB_c {w0 w : World} {p : Nat} {A : Option Addr} {len cap m : Nat} {X : List Bool} (h : Wr w p A len cap m X) (hb : Below w0.heap.size w0 w) (hp : w0.heap.size ≤ p) (htb : Tabs w0)
  (C : Option Addr) (N c : Nat) (T : List Tok) (hT : TRow w0 C N T) (hN : N ≤ 1000) (hok : okF T = N) (last : Bool) (hroom : m + 128 * N + 400 ≤ 1000000) :
  Calls Tryz.prog 27 #[.pointer (some ⟨p, 0, none⟩), .slice C N c, .bool last] w fun e w' => e = .returned (.int .i64 0) ∧ ∃ A' len' cap' m', Wr w' p A' len' cap' m' (X ++ fixB T last) ∧ WOut p (Value.slice A len cap).ownBlock (Value.slice A' len' cap').ownBlock w w' :=
 FixedB_j h C N c T (olderJ h hb hp htb hT) hN hok last hroom
end Go.Proofs.YtldgdofefcehnaaGreatDoor
