/-
  THE CONTRACT OF slices.Chunk, OF TOKENS. No conditions. WRITTEN by wip/gen15g.py (slices.Chunk out of XLenD).
-/

import Derived.Test.YtldgdofefcehnaaGreatDoorLenE
import Derived.Lib.MinMax
import Derived.Test.YtldgdofefcehnaaGreatDoorMtr
import Derived.RangeFuncBox
import Derived.RangeFuncWrites
import Derived.RangeFuncCalls
import Derived.RangeFuncNested
namespace Go.Proofs.YtldgdofefcehnaaGreatDoor
open Go.RowKit Go.Shelf
set_option maxRecDepth 100000
set_option linter.unusedVariables false
attribute [local go_sem] Oper.semAt_some
def blkT (b off n s k : Nat) : Value := .slice (some ⟨b, off + k * s * 3, none⟩) (blkLen n s k) (blkLen n s k)
set_option maxRecDepth 100000 in
set_option maxHeartbeats 8000000 in
theorem chunkT1_in (F : Fence) (m : Nat) (h23 : F.fn 130) (hro : F.round = none) (hm : 1 ≤ m) (l Bs Bn n₀ b off n cap s : Nat) (hn : n ≤ 1048576) (hcap : n ≤ cap) (hs0 : 0 < s) (hs : s ≤ 9223372036854775807)
  (M : Nat) (hM : M = blkCount n s) (J Jx : List (Fin M) → World → Prop) (W : World) (hJ : AbidesFrom W.heap.size J)
  (hY : ∀ pre (k : Fin M) W, J pre W → pre.length < M → YieldAt F (m - 1) Tryz.prog l #[blkT b off n s k.1] W fun e W' =>
   (e = .returned (.bool true) ∧ J (pre ++ [k]) W' ∧ Kc n₀ Bs Bn W W') ∨ (e = .returned (.bool false) ∧ Jx (pre ++ [k]) W'))
  (hBs : W.cell? ⟨Bs, 0, none⟩ = some (.slice (some ⟨b, off, none⟩) n cap)) (hBn : W.cell? ⟨Bn, 0, none⟩ = some (.int .i64 s)) (h0 : J [] W) :
  CallsIn F m Tryz.prog 130 #[.func (.yield l) #[] #[], .pointer (some ⟨Bs, 0, none⟩), .pointer (some ⟨Bn, 0, none⟩)] W fun e W' => (∃ v, e = .returned v) ∧
   ((∃ ys, ys = List.finRange M ∧ J ys W') ∨ (∃ pre, pre <+: List.finRange M ∧ Jx pre W')) := by
 refine callsIn_of_wp Tryz.func130 rfl h23 ?_ hro
 simp only [Tryz.ntmps130, List.size_toArray, List.length_cons, List.length_nil, Nat.reduceAdd, Nat.reduceSub, Array.replicate_succ, Array.replicate_zero, List.push_toArray, List.append_toArray, List.nil_append, List.cons_append]
 gi_wp2
 gi_loopw [4] (fun i wr => ∃ k p q : Nat, Hid (k ≤ blkCount n s) ∧ Hid (p = k * s) ∧ i = .int .i64 p ∧ J (frs M k) wr ∧ Kc n₀ Bs Bn W wr)
  (fun i _ => n - (intOf i).toNat)
 case atStart => exact ⟨0, 0, 0, Nat.zero_le _, (Nat.zero_mul s).symm, rfl, h0, Kc.refl _ _ _ _⟩
 case round =>
  obtain ⟨k, p, q, hk, hp, rfl, hJs, hnx⟩ := hrel
  have hB1 := hnx.2.1.trans hBs
  have hB2 := hnx.2.2.trans hBn
  by_cases hlt : p < n
  ·have hkc : k < blkCount n s := (blkCount_lt hs0).2 (by rw [← hp.out]; exact hlt)
   have hkn : p + blkLen n s k ≤ n := by
    have := hp.out
    unfold blkLen
    omega
   have hps : p + s ≤ 9223372036854775807 := by
    have h1 := hp.out
    rcases Nat.eq_zero_or_pos k with e | e
    ·rw [e, Nat.zero_mul] at h1; omega
    ·have h2 : 1 * s ≤ k * s := Nat.mul_le_mul_right s e
     omega
   have hstep : Hid (p + s = (k + 1) * s) := by
    have := hp.out
    unfold Hid
    rw [Nat.add_mul, Nat.one_mul, this]
   have hbv : blkT b off n s k = .slice (some ⟨b, off + p * 3, none⟩) (blkLen n s k) (blkLen n s k) := by unfold blkT; rw [hp.out]
   have hmin : Hid (blkLen n s k = min s (n - p)) := by unfold Hid blkLen; rw [hp.out]
   obtain ⟨mm, hmm⟩ : ∃ mm, blkLen n s k = mm := ⟨_, rfl⟩
   rw [hmm] at hkn hbv
   have HBV := Lib.hid hbv
   have hmin2 : Hid (mm = min s (n - p)) := hmm.symm.trans hmin.out
   clear hbv hmin hmm
   have hpn : (p : Int) < n := by omega
   have hpc : ¬ (cap - p = 0) := by omega
   have hpm : p + mm ≤ 9223372036854775807 := by omega
   obtain ⟨d, hd⟩ : ∃ d, d = n - p := ⟨_, rfl⟩
   have e1 : ((n : Int) - (p : Int)) = (d : Int) := by omega
   have e2 : n - p = d := hd.symm
   obtain ⟨pe, hpe⟩ : ∃ pe, pe = p + mm := ⟨_, rfl⟩
   have hpi : (p : Int) + (mm : Int) = (pe : Int) := by omega
   have hpi2 : IntKind.i64.wrap ((p : Int) + (mm : Int)) = (pe : Int) := (IntWalk.i64_in _ (by omega)).trans hpi
   have hpi3 : p ≤ pe := by omega
   have hpi4 : pe ≤ cap := by omega
   have hpi5 : pe - p = mm := by omega
   have HPE := Lib.hid hpe
   clear hpe
   have hnxt : ∀ q, J (frs M k) (wr.drewN q) ∧ Kc n₀ Bs Bn W (wr.drewN q) := fun q =>
    ⟨hJ _ wr (wr.drewN q) none hJs ⟨rfl, rfl, rfl, Nat.le_refl _, fun _ _ _ => rfl⟩ (fun r e => by cases e), hnx.drewN q⟩
   have HN := Lib.hid hnxt
   clear hnxt
   obtain ⟨hJ2, hW2⟩ := HN.out 1
   have HKM : Hid (k < M) := by unfold Hid; rw [hM]; exact hkc
   obtain ⟨fn, tmps, assign, body, hy, hR⟩ := hY _ ⟨k, HKM.out⟩ (wr.drewN 1) hJ2 (by rw [frs_length (by rw [hM]; omega), hM]; exact hkc)
   rw [show blkT b off n s (⟨k, HKM.out⟩ : Fin M).1 = _ from HBV.out] at hy
   have hyd : Sem.run Tryz.prog (Instr.yield l #[Value.slice (some ⟨b, off + p * 3, none⟩) mm mm]) wr.drew = Result.ok (Next.round l fn tmps assign body) wr.drew := hy
   have HM := Lib.hid hM
   clear hy hY
   have HBN := Lib.hid hBn
   have HBS := Lib.hid hBs
   have HKC := Lib.hid hkc
   clear hkc
   clear hd
   by_cases hc : s ≤ d
   ·obtain rfl : mm = s := by have := hmin2.out; omega
    have hc1 : (mm : Int) ≤ (d : Int) := by omega
    have hmn : min (mm : Int) (d : Int) = (mm : Int) := by omega
    gi_wp2
    gi_region
    all_goals
     gi_wp2_with fail
     refine hR.mono ?_
     rintro e W3 (⟨rfl, hJ3, hk3⟩ | ⟨rfl, hJx3⟩)
     ·have hB3 := hW2.trans hk3
      have hBn3 := hB3.2.2.trans HBN.out
      have hBs3 := hB3.2.1.trans HBS.out
      gi_wp2
      go_roundw
      case rel => exact ⟨k + 1, _, 0, (blkCount_le_succ HKC.out), (HPE.out.trans hstep.out), rfl, by rw [frs_snoc (show k < M by rw [HM.out]; exact HKC.out)]; exact hJ3, hB3⟩
      case measure => simp [intOf]; omega
     ·gi_wp2
      refine bodyPost_ret (results_none rfl _ _ _) rfl ?_
      exact ⟨⟨_, rfl⟩, .inr ⟨_, by rw [← frs_snoc]; exact frs_pre _ _, hJx3⟩⟩
   ·have hc1 : ¬ (s : Int) ≤ (d : Int) := by omega
    obtain rfl : mm = d := by have := hmin2.out; omega
    have hmn : min (s : Int) (mm : Int) = (mm : Int) := by omega
    obtain ⟨px, hpx⟩ : ∃ px, px = p + s := ⟨_, rfl⟩
    have hpx1 : (p : Int) + (s : Int) = (px : Int) := by omega
    have hpx2 : IntKind.i64.wrap ((p : Int) + (s : Int)) = (px : Int) := (IntWalk.i64_in _ (by omega)).trans hpx1
    have HPX := Lib.hid hpx
    clear hpx
    gi_wp2
    gi_region
    all_goals
     gi_wp2_with fail
     refine hR.mono ?_
     rintro e W3 (⟨rfl, hJ3, hk3⟩ | ⟨rfl, hJx3⟩)
     ·have hB3 := hW2.trans hk3
      have hBn3 := hB3.2.2.trans HBN.out
      have hBs3 := hB3.2.1.trans HBS.out
      gi_wp2
      go_roundw
      case rel => exact ⟨k + 1, _, 0, (blkCount_le_succ HKC.out), (HPX.out.trans hstep.out), rfl, by rw [frs_snoc (show k < M by rw [HM.out]; exact HKC.out)]; exact hJ3, hB3⟩
      case measure => have := HPX.out; simp [intOf]; omega
     ·gi_wp2
      refine bodyPost_ret (results_none rfl _ _ _) rfl ?_
      exact ⟨⟨_, rfl⟩, .inr ⟨_, by rw [← frs_snoc]; exact frs_pre _ _, hJx3⟩⟩
  ·have hfin : k = blkCount n s := by
    have h1 : ¬ k < blkCount n s := fun e => hlt (by rw [hp.out]; exact (blkCount_lt hs0).1 e)
    have h2 := hk.out
    omega
   have HF := Lib.hid hfin
   have HM := Lib.hid hM
   clear hfin
   have hpn : ¬ (p : Int) < n := by omega
   gi_wp2
   go_end0
   have he : frs M k = List.finRange M := by rw [HF.out, ← HM.out]; exact frs_all M
   exact ⟨⟨_, rfl⟩, .inl (by rw [← he]; exact hJs)⟩
set_option maxHeartbeats 2000000 in
theorem chunkT_in (F : Fence) (m : Nat) (h20 : F.fn 86) (hro : F.round = none) (A : Option Addr) (n c s : Nat) (hs : 0 < s) (hs2 : s ≤ 9223372036854775807) (w : World) :
  CallsIn F m Tryz.prog 86 #[.slice A n c, .int .i64 s] w fun e w' => e = .returned (.func (.func 130) #[] #[.pointer (some ⟨w.heap.size, 0, none⟩), .pointer (some ⟨w.heap.size + 1, 0, none⟩)]) ∧ w' = (w.alloc (.cells #[.slice A n c] 41)).alloc (.cells #[.int .i64 s] 3) := by
 refine callsIn_of_wp Tryz.func86 rfl h20 ?_ hro
 simp only [Tryz.ntmps86, List.size_toArray, List.length_cons, List.length_nil, Nat.reduceAdd, Nat.reduceSub, Array.replicate_succ, Array.replicate_zero, List.push_toArray, List.append_toArray, List.nil_append, List.cons_append]
 have h1 : ¬ (s : Int) < 1 := by omega
 gi_wp2
 go_ret
 exact ⟨rfl, rfl⟩
theorem chunkT0_in (F : Fence) (m : Nat) (h23 : F.fn 130) (hro : F.round = none) (l Bs Bn c : Nat) (A : Option Addr) (J : List Nat → World → Prop) (W : World) (hBs : W.cell? ⟨Bs, 0, none⟩ = some (.slice A 0 c)) (h0 : J [] W) :
  CallsIn F m Tryz.prog 130 #[.func (.yield l) #[] #[], .pointer (some ⟨Bs, 0, none⟩), .pointer (some ⟨Bn, 0, none⟩)] W fun e W' => (∃ v, e = .returned v) ∧ J [] W' := by
 refine callsIn_of_wp Tryz.func130 rfl h23 ?_ hro
 simp only [Tryz.ntmps130, List.size_toArray, List.length_cons, List.length_nil, Nat.reduceAdd, Nat.reduceSub, Array.replicate_succ, Array.replicate_zero, List.push_toArray, List.append_toArray, List.nil_append, List.cons_append]
 gi_wp2
 gi_loopw [4] (fun i wr => i = .int .i64 0 ∧ wr.cell? ⟨Bs, 0, none⟩ = some (.slice A 0 c) ∧ J [] wr) (fun _ _ => 0)
 case atStart => exact ⟨rfl, hBs, h0⟩
 case round =>
  obtain ⟨rfl, hc, hJs⟩ := hrel
  gi_wp2
  go_end0
  exact ⟨⟨_, rfl⟩, hJs⟩
theorem chunkT_stops (F : Fence) (m : Nat) (h23 : F.fn 130) (hro : F.round = none) (hm : 1 ≤ m) (Bs Bn n₀ b off n cap s : Nat) (hn : n ≤ 1048576) (hcap : n ≤ cap) (hs0 : 0 < s) (hs : s ≤ 9223372036854775807) (M : Nat) (hM : M = blkCount n s) (w : World)
  (hbs : Bs < w.heap.size) (hbn : Bn < w.heap.size)
  (hBs : w.cell? ⟨Bs, 0, none⟩ = some (.slice (some ⟨b, off, none⟩) n cap)) (hBn : w.cell? ⟨Bn, 0, none⟩ = some (.int .i64 s)) :
  SeqStopsK F m Tryz.prog 130 #[.pointer (some ⟨Bs, 0, none⟩), .pointer (some ⟨Bn, 0, none⟩)] (fun k : Fin M => #[blkT b off n s k.1]) (Kc n₀ Bs Bn) (fun ys => ys = List.finRange M) (fun pre => pre <+: List.finRange M) M w := fun l J Jx W hW hJ _ hY h0 =>
 chunkT1_in F m h23 hro hm l Bs Bn n₀ b off n cap s hn hcap hs0 hs M hM J Jx W hJ hY ((hW.cell (p := ⟨Bs, 0, none⟩) hbs).trans hBs) ((hW.cell (p := ⟨Bn, 0, none⟩) hbn).trans hBn) h0
end Go.Proofs.YtldgdofefcehnaaGreatDoor
