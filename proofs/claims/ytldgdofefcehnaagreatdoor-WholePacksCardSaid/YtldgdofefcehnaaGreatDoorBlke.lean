/-
  TOKENS THAT ARE PUT: the contract of codes.put. No conditions.
-/
import Derived.Test.YtldgdofefcehnaaGreatDoorBlkc
namespace Go.Proofs.YtldgdofefcehnaaGreatDoor
open Go.RowKit
set_option maxRecDepth 1000000
set_option linter.unusedVariables false
theorem putPlain_d {w : World} {p : Nat} {A : Option Addr} {len cap m : Nat} {X : List Bool} (h : Wr w p A len cap m X) {q n : Nat} {l : List Int} {gc : Nat} {LA : Option Addr} {lc : Nat} {S : Nat → Value}
  (ht : TabIn w q n l gc LA lc S) (s : Int) (hs : codeAt l s < 4294967296) (hroom : m + 64 ≤ 1000000) :
  Calls Tryz.prog 113 #[.pointer (some ⟨p, 0, none⟩), .pointer (some ⟨q, 0, none⟩), .int .i64 s, .int .i64 0, .int .i64 0] w fun e w' => e = .returned (.tuple #[]) ∧ ∃ A' len' cap' m', Wr w' p A' len' cap' m' (X ++ symB l s 0 0) ∧ m' ≤ m + 64 ∧ WOut p (Value.slice A len cap).ownBlock (Value.slice A' len' cap').ownBlock w w' :=
 putSymbol_d h ht s hs 0 0 (by omega) hroom
structure PutEnv (C : Option Addr) (N : Nat) (T : List Tok) (q n r k : Nat) (l d : List Int) (gc : Nat) (LA : Option Addr) (lc : Nat) (S : Nat → Value) (hc : Nat) (LB : Option Addr) (ld : Nat) (R : Nat → Value) (W : World) : Prop where
 lits : TabIn W q n l gc LA lc S
 dists : TabIn W r k d hc LB ld R
 tabs : Tabs W
 toks : TRow W C N T
theorem blk2 {w : World} {g : Nat} {t : TypeId} {a b : Value} (h : Blk w g t #[a, b]) : w.cell? ⟨g, 0, none⟩ = some a ∧ w.cell? ⟨g, 1, none⟩ = some b := ⟨by simpa using h.cell 0, by simpa using h.cell 1⟩
set_option maxHeartbeats 4000000 in
theorem putToks_j {w : World} {p : Nat} {A : Option Addr} {len cap m : Nat} {X : List Bool} (h : Wr w p A len cap m X) (C : Option Addr) (N c : Nat) (T : List Tok) (hJ : ∀ W b, WOut p (Value.slice A len cap).ownBlock b w W → Tabs W ∧ TRow W C N T)
  {B q n : Nat} {l : List Int} {gc : Nat} {LA : Option Addr} {lc : Nat} {S : Nat → Value} (ht : TabIn w q n l gc LA lc S) (hlo : TabLo B q gc LA S)
  {r k : Nat} {d : List Int} {hc : Nat} {LB : Option Addr} {ld : Nat} {R : Nat → Value} (hu : TabIn w r k d hc LB ld R) (hlu : TabLo B r hc LB R) (hpB : p < B) (haB : ∀ g, (Value.slice A len cap).ownBlock = some g → g < B)
  (hcl : ∀ s, codeAt l s < 4294967296) (hcd : ∀ s, codeAt d s < 4294967296) (hN : N ≤ 1000) (hroom : m + 128 * N + 128 ≤ 1000000) :
  Calls Tryz.prog 66 #[.agg #[.pointer (some ⟨q, 0, none⟩), .pointer (some ⟨r, 0, none⟩)], .pointer (some ⟨p, 0, none⟩), .slice C N c] w fun e w' => e = .returned (.tuple #[]) ∧ ∃ A' len' cap' m', Wr w' p A' len' cap' m' (X ++ toksB l d T ++ symB l 256 0 0) ∧ WOut p (Value.slice A len cap).ownBlock (Value.slice A' len' cap').ownBlock w w' := by
 have H := Lib.hid h
 have HLEN := Lib.hid (hJ w _ (WOut.refl _ _ _)).2.len
 have HU := Lib.hid (fun (W : World) (b : Option Nat) (ho : WOut p (Value.slice A len cap).ownBlock b w W) => (⟨ht.wout hlo ho hpB haB, hu.wout hlu ho hpB haB, (hJ W b ho).1, (hJ W b ho).2⟩ : PutEnv C N T q n r k l d gc LA lc S hc LB ld R W))
 have hpl := h.lt
 have hal : Hid ((Value.slice A len cap).ownBlock ≠ some w.heap.size) := fun e => by have := (h.own.lt _ e).2; omega
 have HX := Lib.hid (Blk.new w 107 #[.pointer (some ⟨q, 0, none⟩), .pointer (some ⟨r, 0, none⟩)])
 have HO0 : Hid (WOut p (Value.slice A len cap).ownBlock (Value.slice A len cap).ownBlock w (w.alloc (.cells #[.pointer (some ⟨q, 0, none⟩), .pointer (some ⟨r, 0, none⟩)] 107))) := (WOut.refl _ _ _).alloc _
 have HW0 : Hid (Wr (w.alloc (.cells #[.pointer (some ⟨q, 0, none⟩), .pointer (some ⟨r, 0, none⟩)] 107)) p A len cap m X) := h.below ((Below.refl _ _).alloc (Nat.le_refl _) _)
 clear h ht hu hJ hlo hlu haB
 go_enter Tryz.func66, Tryz.ntmps66
 go_wp2_with fail
 obtain ⟨w1, hw1⟩ : ∃ w1, w1 = w.alloc (.cells #[.pointer (some ⟨q, 0, none⟩), .pointer (some ⟨r, 0, none⟩)] 107) := ⟨_, rfl⟩
 have hs1 : Hid (w1.heap.size = w.heap.size + 1) := by unfold Hid; rw [hw1, World.size_alloc]
 rw [← hw1] at HX HO0 HW0 ⊢
 have HU1 := Lib.hid (fun (W : World) (b : Option Nat) (ho : WOut p (Value.slice A len cap).ownBlock b w1 W) => HU.out W b (HO0.out.trans ho))
 have HX1 := Lib.hid (fun (W : World) (b : Option Nat) (ho : WOut p (Value.slice A len cap).ownBlock b w1 W) => blk2 (HX.out.woutK ho (by have := hpl; omega) hal.out))
 obtain ⟨g0, hg0⟩ : ∃ g, g = w.heap.size := ⟨_, rfl⟩
 rw [← hg0] at hs1 HX1 ⊢
 clear hw1 HX hal HU hg0
 go_loopw [13] (fun iv wr => ∃ (i len' cap' m' : Nat) (A' : Option Addr), iv = .int .i64 i ∧ i ≤ N ∧ Hid (Wr wr p A' len' cap' m' (X ++ toksB l d (T.take i))) ∧ m' ≤ m + 128 * i ∧ Hid (WOut p (Value.slice A len cap).ownBlock (Value.slice A' len' cap').ownBlock w1 wr)) (fun iv _ => N - (intOf iv).toNat)
 case atStart => exact ⟨0, len, cap, m, A, rfl, by omega, by rw [List.take_zero, show toksB l d [] = [] from rfl, List.append_nil]; exact HW0, by omega, WOut.refl _ _ _⟩
 case round =>
  clear HW0
  obtain ⟨i, len', cap', m', A', rfl, hiN, hW, hm', hO⟩ := hrel
  have HE := Lib.hid (HU1.out wr _ hO.out)
  obtain ⟨x0, x1⟩ := HX1.out wr _ hO.out
  by_cases hlt : i < N
  ·have hlti : (i : Int) < (N : Int) := by omega
   obtain ⟨b, off, rfl, hbl, c0, c1, c2⟩ := HE.out.toks.at_ hlt
   have hst : Hid (toksB l d (T.take (i + 1)) = toksB l d (T.take i) ++ tokB l d (tg T i)) := by unfold Hid; rw [take_tg (by rw [HLEN.out]; exact hlt), toksB_snoc]
   obtain ⟨t, htg⟩ : ∃ t, t = tg T i := ⟨_, rfl⟩
   rw [← htg] at c0 c1 c2 hst
   obtain ⟨x, ln, dist⟩ := t
   dsimp only at c0 c1 c2
   clear htg HE
   have HO1 := Lib.hid (hO.out.alloc (.cells #[.int .u8 x.n, .int .i64 ln, .int .i64 dist] 53))
   have HW1 := Lib.hid (hW.out.below ((Below.refl _ _).alloc (Nat.le_refl _) (.cells #[.int .u8 x.n, .int .i64 ln, .int .i64 dist] 53)))
   have HK := Lib.hid (Blk.new wr 53 #[.int .u8 x.n, .int .i64 ln, .int .i64 dist])
   have HNE : Hid ((Value.slice A' len' cap').ownBlock ≠ some wr.heap.size) := fun e => by have := (hW.out.own.lt _ e).2; omega
   have HNP : Hid (wr.heap.size ≠ p) := by have := hW.out.lt; unfold Hid; omega
   by_cases h0 : ln = 0
   ·have hyb : (ln == 0) = true := by rw [h0]; rfl
    have hT0 : Hid (tokB l d ⟨x, ln, dist⟩ = symB l x.n 0 0) := by unfold Hid tokB; rw [if_pos (by exact h0)]
    clear h0
    obtain ⟨y0, y1⟩ := HX1.out _ _ HO1.out
    obtain ⟨⟨k0, k1, k2⟩, -⟩ := HK.out.trip
    go_wp2_with fail
    generalize wr.alloc (.cells #[.int .u8 x.n, .int .i64 ln, .int .i64 dist] 53) = w2 at *
    have hcc := hcl (x.n : Int)
    have ex : wrap64 (x.n : Int) = (x.n : Int) := by
     have := x.lt
     unfold wrap64
     omega
    rw [ex]
    refine (putPlain_d HW1.out (HU1.out w2 _ HO1.out).lits (x.n : Int) hcc (by omega)).mono ?_
    rintro e w3 ⟨rfl, A2, len2, cap2, m2, hW2, hm2, hO2⟩
    rw [List.append_assoc, ← hT0.out, ← hst.out] at hW2
    have HW2 := Lib.hid hW2
    have HO2 := Lib.hid (HO1.out.trans hO2)
    clear hW2 hO2 c0 c1 c2 k0 k1 k2 y0 y1 hcc
    go_wp2
    go_roundw
    case rel => exact ⟨i + 1, len2, cap2, m2, A2, by go_num, by omega, HW2, by omega, HO2⟩
    case measure => simp [intOf]; omega
   ·have hyb : (ln == 0) = false := by rw [beq_eq_false_iff_ne]; exact h0
    have hT0 : Hid (tokB l d ⟨x, ln, dist⟩ = symB l (lenC ln : Nat) (lenX ln) (lenV ln) ++ symB d (dstC dist : Nat) (dstX dist) (dstV dist)) := by unfold Hid tokB; rw [if_neg (by exact h0)]
    have hv1 := (lenV_lt ln).1
    have hv2 := (lenV_lt dist).2
    clear h0
    go_wp2_with fail
    generalize wr.alloc (.cells #[.int .u8 x.n, .int .i64 ln, .int .i64 dist] 53) = w2 at *
    have HE2 := Lib.hid (HU1.out w2 _ HO1.out)
    obtain ⟨y0, y1⟩ := HX1.out w2 _ HO1.out
    obtain ⟨⟨k0, k1, k2⟩, -⟩ := HK.out.trip
    have HLC := Lib.hid (Length_c ln w2 HE2.out.tabs)
    generalize lenC ln = e1 at *
    generalize lenX ln = s1 at *
    generalize lenV ln = v1 at *
    refine HLC.out.mono ?_
    rintro e _ ⟨rfl, rfl⟩
    go_wp2_with fail
    have hcc := hcl (e1 : Int)
    refine (putSymbol_d HW1.out HE2.out.lits (e1 : Int) hcc s1 v1 hv1 (by omega)).mono ?_
    rintro e w3 ⟨rfl, A3, len3, cap3, m3, hW3, hm3, hO3⟩
    have HW3 := Lib.hid hW3
    have HK3 := Lib.hid (HK.out.woutK hO3 HNP.out HNE.out)
    have HO3 := Lib.hid (HO1.out.trans hO3)
    have HE3 := Lib.hid (HU1.out w3 _ HO3.out)
    obtain ⟨z0, z1⟩ := HX1.out w3 _ HO3.out
    obtain ⟨⟨j0, j1, j2⟩, -⟩ := HK3.out.trip
    have HDC := Lib.hid (Dist_c dist w3 HE3.out.tabs)
    generalize dstC dist = e2 at *
    generalize dstX dist = s2 at *
    generalize dstV dist = v2 at *
    clear hW3 hO3 k0 k1 k2 y0 y1 c0 c1 c2 hcc HLC HW1 HO1 HE2 HK
    go_wp2_with fail
    refine HDC.out.mono ?_
    rintro e _ ⟨rfl, rfl⟩
    go_wp2_with fail
    have hcc := hcd (e2 : Int)
    refine (putSymbol_d HW3.out HE3.out.dists (e2 : Int) hcc s2 v2 hv2 (by omega)).mono ?_
    rintro e w4 ⟨rfl, A4, len4, cap4, m4, hW4, hm4, hO4⟩
    rw [List.append_assoc, ← hT0.out, List.append_assoc, ← hst.out] at hW4
    have HW4 := Lib.hid hW4
    have HO4 := Lib.hid (HO3.out.trans hO4)
    clear hW4 hO4 z0 z1 j0 j1 j2 hcc HDC HW3 HO3 HE3 HK3
    go_wp2
    go_roundw
    case rel => exact ⟨i + 1, len4, cap4, m4, A4, by go_num, by omega, HW4, by omega, HO4⟩
    case measure => simp [intOf]; omega
  ·have hlti : ¬ (i : Int) < (N : Int) := by omega
   obtain rfl : i = N := by omega
   have HWN := hW.out
   rw [← HLEN.out, List.take_length] at HWN
   have HW9 := Lib.hid HWN
   clear HWN
   go_wp2_with fail
   have hcc := hcl 256
   refine (putPlain_d HW9.out HE.out.lits 256 hcc (by omega)).mono ?_
   rintro e w2 ⟨rfl, A2, len2, cap2, m2, hW2, hm2, hO2⟩
   have HW2 := Lib.hid hW2
   have HO2 := Lib.hid (HO0.out.trans (hO.out.trans hO2))
   clear hW2 hO2
   go_wp2
   go_end0
   exact ⟨rfl, A2, len2, cap2, m2, HW2.out, HO2.out⟩
end Go.Proofs.YtldgdofefcehnaaGreatDoor
