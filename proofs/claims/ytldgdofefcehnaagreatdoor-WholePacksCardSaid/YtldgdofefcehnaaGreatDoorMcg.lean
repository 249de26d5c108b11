/-
  THE CONTRACTS OF the finder's pass, longest. No conditions.
-/
import Derived.Test.YtldgdofefcehnaaGreatDoorMcf
import Derived.Deep.LoopGhost
import Derived.Deep.DeepCutAuto
namespace Go.Proofs.YtldgdofefcehnaaGreatDoor
open Go.RowKit
set_option maxRecDepth 1000000
set_option linter.unusedVariables false
theorem ob_ {g n c x : Nat} (h : (Value.slice (some ⟨g, 0, none⟩) n c).ownBlock = some x) : g = x := by simpa [Value.ownBlock] using h
theorem own_setO {w : World} {base n : Nat} {e : TypeId} {v : Value} {xs : List Value} (h : w.ownsRow base e 1 v n xs) {a : Addr} (hne : v.ownBlock ≠ some a.block) (u : Value) : (w.setCell a u).ownsRow base e 1 v n xs := by
 refine ⟨h.1, ?_⟩
 rcases h.2 with hn | ⟨g, cap, cur, rfl, hbg, hg, rest⟩
 ·exact .inl hn
 ·exact .inr ⟨g, cap, cur, rfl, hbg, (Go.Deep.blk_setCell_other _ _ _ _ (fun e => hne (by rw [← e]; rfl))).trans hg, rest⟩
structure FOut (p gl : Nat) (w w' : World) : Prop where
 os : w'.os = w.os
 tape : w'.tape = w.tape
 output : w'.output = w.output
 size : w.heap.size ≤ w'.heap.size
 block : ∀ k, k < w.heap.size → k ≠ p → k ≠ gl → w'.heap[k]? = w.heap[k]?
namespace FOut
variable {p gl : Nat} {w w' w'' : World}
theorem refl (p gl : Nat) (w : World) : FOut p gl w w := ⟨rfl, rfl, rfl, Nat.le_refl _, fun _ _ _ _ => rfl⟩
theorem drewN (h : FOut p gl w w') (q : Nat) : FOut p gl w (w'.drewN q) := ⟨h.os, h.tape, h.output, h.size, h.block⟩
theorem setP (h : FOut p gl w w') (i : Nat) (v : Value) : FOut p gl w (w'.setCell ⟨p, i, none⟩ v) :=
 ⟨h.os, h.tape, h.output, by simpa [World.setCell] using h.size, fun k hk hp hg => (Below.heap_setCell _ _ _ _ hp).trans (h.block k hk hp hg)⟩
theorem setG (h : FOut p gl w w') (i : Nat) (v : Value) : FOut p gl w (w'.setCell ⟨gl, i, none⟩ v) :=
 ⟨h.os, h.tape, h.output, by simpa [World.setCell] using h.size, fun k hk hp hg => (Below.heap_setCell _ _ _ _ hg).trans (h.block k hk hp hg)⟩
theorem below {B : Nat} (h : FOut p gl w w') (hp : B ≤ p) (hg : B ≤ gl) (hs : B ≤ w.heap.size) : Below B w w' := ⟨h.os, h.tape, h.output, h.size, fun k hk => h.block k (by omega) (by omega) (by omega)⟩
end FOut
namespace Fin_
variable {w w' : World} {H p gl : Nat} {B : Option Addr} {n cb : Nat} {l : List F} {lev : Nat} {s : Fs}
theorem low (h : Fin_ w H p gl B n cb l lev s) {q : Nat} (hq : H ≤ q) (i : Nat) (v : Value) : RowIn (w.setCell ⟨q, i, none⟩ v) B n cb l := by
 refine ⟨⟨h.row.row.len, h.row.row.2.1, fun hn => ?_⟩, h.row.le, h.row.max⟩
 obtain ⟨b, o, e, hl, hc⟩ := h.row.row.2.2 hn
 have hb := h.lob (by omega) b o e
 refine ⟨b, o, e, by simpa [World.setCell] using hl, fun i hi => ?_⟩
 rw [World.cell?_of_block (a := ⟨b, o + i, none⟩) (Go.Deep.blk_setCell_other _ _ _ _ (show b ≠ q by omega))]
 exact hc i hi
theorem setLk (h : Fin_ w H p gl B n cb l lev s) {i : Nat} (hi : i < n) (v : Nat) : Fin_ (w.setCell ⟨gl, i, none⟩ (.int .i32 (v : Nat))) H p gl B n cb l lev ⟨s.at_, s.hd, fun x => if x = i then v else s.lk x⟩ := by
 obtain ⟨C, h1, h2⟩ := h.blk
 refine ⟨⟨C, h1.setOther (by show p ≠ gl; exact h.ne) _, ⟨h2.size, h2.c0, h2.c1, h2.c2, h2.hd, h2.c4⟩⟩, ?_, h.low h.hH.2 _ _, h.lob, h.hH, h.ne, h.few, h.le⟩
 have := (h.lks.stored i (.int .i32 (v : Nat))).1
 rwa [l32_set v hi] at this
theorem setP_ (h : Fin_ w H p gl B n cb l lev s) {s' : Fs} (hlk : s'.lk = s.lk) (hle : s'.at_ ≤ n) (i : Nat) (v : Value) (hC : ∀ C, FinC C (.slice B n cb) lev s (.slice (some ⟨gl, 0, none⟩) n n) → FinC (C.setIfInBounds i v) (.slice B n cb) lev s' (.slice (some ⟨gl, 0, none⟩) n n)) :
  Fin_ (w.setCell ⟨p, i, none⟩ v) H p gl B n cb l lev s' := by
 obtain ⟨C, h1, h2⟩ := h.blk
 refine ⟨⟨_, h1.set_ i v, hC C h2⟩, ?_, h.low h.hH.1 _ _, h.lob, h.hH, h.ne, h.few, hle⟩
 rw [hlk]
 exact own_setO h.lks (fun e => h.ne (ob_ e).symm) v
theorem setAt (h : Fin_ w H p gl B n cb l lev s) {a : Nat} (ha : a ≤ n) : Fin_ (w.setCell ⟨p, 1, none⟩ (.int .i64 (a : Nat))) H p gl B n cb l lev ⟨a, s.hd, s.lk⟩ :=
 h.setP_ (s' := ⟨a, s.hd, s.lk⟩) rfl ha 1 (.int .i64 (a : Nat)) fun C hC => ⟨by simpa using hC.size, by rw [Array.getElem?_setIfInBounds_ne (by omega)]; exact hC.c0, by rw [Array.getElem?_setIfInBounds_self, if_pos (by rw [hC.size]; omega)], by rw [Array.getElem?_setIfInBounds_ne (by omega)]; exact hC.c2,
  fun c hc => by rw [Array.getElem?_setIfInBounds_ne (by omega)]; exact hC.hd c hc, by rw [Array.getElem?_setIfInBounds_ne (by omega)]; exact hC.c4⟩
theorem setHd (h : Fin_ w H p gl B n cb l lev s) {c : Nat} (hc : c < 32768) (v : Nat) : Fin_ (w.setCell ⟨p, 3 + c, none⟩ (.int .i32 (v : Nat))) H p gl B n cb l lev ⟨s.at_, fun x => if x = c then v else s.hd x, s.lk⟩ :=
 h.setP_ (s' := ⟨s.at_, fun x => if x = c then v else s.hd x, s.lk⟩) rfl h.le (3 + c) (.int .i32 (v : Nat)) fun C hC => ⟨by simpa using hC.size, by rw [Array.getElem?_setIfInBounds_ne (by omega)]; exact hC.c0, by rw [Array.getElem?_setIfInBounds_ne (by omega)]; exact hC.c1, by rw [Array.getElem?_setIfInBounds_ne (by omega)]; exact hC.c2,
  fun x hx => by
   by_cases e : x = c
   ·subst e
    rw [Array.getElem?_setIfInBounds_self, if_pos (by rw [hC.size]; omega)]
    show _ = some (Value.int .i32 ((if x = x then v else s.hd x : Nat) : Int))
    rw [if_pos rfl]
   ·rw [Array.getElem?_setIfInBounds_ne (by omega), hC.hd x hx]
    show _ = some (Value.int .i32 ((if x = c then v else s.hd x : Nat) : Int))
    rw [if_neg e], by rw [Array.getElem?_setIfInBounds_ne (by omega)]; exact hC.c4⟩
end Fin_
section
variable {w : World} {H p gl : Nat} {B : Option Addr} {n cb : Nat} {l : List F} {lev : Nat} {s : Fs}
set_option maxHeartbeats 2000000 in
theorem pass_c (h : Fin_ w H p gl B n cb l lev s) (hok : FsOk s) (k : Nat) (hk : s.at_ + k ≤ n) :
  Calls Tryz.prog 56 #[.pointer (some ⟨p, 0, none⟩), .int .i64 k] w fun e w' => e = .returned (.tuple #[]) ∧ Fin_ w' H p gl B n cb l lev (psF l k s) ∧ FOut p gl w w' := by
 have hn := h.few.1
 have HH := Lib.hid h
 have HOK := Lib.hid hok
 clear h hok
 go_enter Tryz.func56, Tryz.ntmps56
 go_wp2
 go_loopw [7] (fun iv wr => ∃ (i : Nat) (s' : Fs), iv = .int .i64 i ∧ i ≤ k ∧ s'.at_ + (k - i) ≤ n ∧ Hid (Fin_ wr H p gl B n cb l lev s') ∧ Hid (FsOk s') ∧ Hid (psF l (k - i) s' = psF l k s) ∧ Hid (FOut p gl w wr)) (fun iv _ => k - (intOf iv).toNat)
 case atStart => exact ⟨0, s, rfl, by omega, by omega, HH, HOK, rfl, FOut.refl _ _ _⟩
 case round =>
  obtain ⟨i, s', rfl, hi, hat, hF, hO, hP, hFO⟩ := hrel
  by_cases hlt : i < k
  ·have hlt2 : (i : Int) < (k : Int) := by omega
   have hstep : Hid (psF l (k - (i + 1)) (ps1 l s') = psF l k s) := by
    unfold Hid
    rw [← hP.out, show k - i = k - (i + 1) + 1 by omega]
    rfl
   have hok2 := Lib.hid (hO.out.next (l := l))
   have hat1 := ps1_at l s'
   cases hc : chF l s'.at_ with
   | none =>
    have hps : ps1 l s' = ⟨s'.at_ + 1, s'.hd, s'.lk⟩ := by unfold ps1; rw [hc]
    have hCH := Lib.hid (chain_no hF.out hc)
    rw [hps] at hstep hok2
    clear hc hps hat1
    go_wp2_with fail
    refine hCH.out.mono ?_
    rintro e w1 ⟨rfl, q, rfl⟩
    have hF1 := hF.out.drewN q
    have hF2 := Lib.hid (hF1.setAt (a := s'.at_ + 1) (by omega))
    have hFO2 := Lib.hid ((hFO.out.drewN q).setP 1 (.int .i64 ((s'.at_ + 1 : Nat) : Int)))
    obtain ⟨_, c1, _, _, _⟩ := hF1.cells
    have f1 : (wr.drewN q).frozen? ⟨p, 1, none⟩ = false := by obtain ⟨C, h1, _⟩ := hF1.blk; exact h1.frozen 1
    have hlea := hF1.le
    have hat2 : s'.at_ + 1 + (k - (i + 1)) ≤ n := by omega
    clear hF1
    generalize wr.drewN q = W at *
    generalize s'.at_ = a at *
    go_wp2
    go_roundw
    case rel => exact ⟨i + 1, _, by go_num, by omega, hat2, hF2, hok2, hstep, hFO2⟩
    case measure => simp [intOf]; omega
   | some c =>
    have hps : ps1 l s' = ⟨s'.at_ + 1, fun x => if x = c then s'.at_ + 1 else s'.hd x, fun x => if x = s'.at_ then s'.hd c else s'.lk x⟩ := by unfold ps1; rw [hc]
    have hCH := Lib.hid (chain_ok hF.out hc)
    obtain ⟨hc1, hc2⟩ := chF_lt hc
    have hlen := hF.out.len_
    have hhd := hO.out.hd c
    rw [hps] at hstep hok2
    clear hc hps hat1
    go_wp2_with fail
    refine hCH.out.mono ?_
    rintro e w1 ⟨rfl, q, rfl⟩
    have hF1 := hF.out.drewN q
    have hFO1 := Lib.hid (hFO.out.drewN q)
    have hle1 := hF1.le
    have hci : (c : Int) < 32768 := by omega
    have hai : (s'.at_ : Int) < (n : Int) := by omega
    have hh2 : s'.hd c ≤ 100000 := by omega
    have hat2 : s'.at_ + 1 + (k - (i + 1)) ≤ n := by omega
    have hane : p ≠ gl := hF1.ne
    generalize wr.drewN q = W at *
    generalize hA : s'.at_ = a at *
    generalize hV : s'.hd c = v at *
    have hF1d : Fin_ (World.drew W) H p gl B n cb l lev s' := hF1.drewN 1
    have hFO1d : Hid (FOut p gl w (World.drew W)) := hFO1.out.drewN 1
    obtain ⟨_, c1, _, c4, c3⟩ := hF1.cells
    have c3' := c3 c hc1
    rw [hV] at c3'
    rw [hA] at c1
    have HF1 := Lib.hid hF1
    have HF1d := Lib.hid hF1d
    clear c3 hF1 hF1d hF hCH hFO hhd
    go_wp2
    refine wp_region_still_tail 15 (by kernel_rfl) (by kernel_rfl) ?_
    simp only [List.take_succ_cons, List.take_zero, List.drop_succ_cons, List.drop_zero]
    change wpStill _ _ (World.drew W) (fun a' => wpList _ _ _ _ a' (World.drew W)) _ _
    repeat still_step
    refine wpStill_nil ?_
    clear c1 c4 c3'
    generalize World.drew W = W1 at *
    have fl := HF1d.out.lks.frozenAt a
    have kl := HF1d.out.lks.cellAt a (by omega)
    rw [l32_at (by omega)] at kl
    generalize s'.lk a = y at kl
    have hF2 := HF1d.out.setLk (i := a) (by omega) v
    have hFO2 := hFO1d.out.setG a (.int .i32 (v : Nat))
    obtain ⟨_, d1, _, _, d3⟩ := hF2.cells
    have d3' := d3 c hc1
    dsimp only at d1 d3'
    rw [hA] at d1
    rw [hV] at d3'
    have f3 : (W1.setCell ⟨gl, a, none⟩ (.int .i32 (v : Nat))).frozen? ⟨p, 3 + c, none⟩ = false := by obtain ⟨C, h1, _⟩ := hF2.blk; exact h1.frozen _
    have hF2d : Fin_ (World.drew (W1.setCell ⟨gl, a, none⟩ (.int .i32 (v : Nat)))) H p gl B n cb l lev _ := hF2.drewN 1
    have hFO2d : Hid (FOut p gl w (World.drew (W1.setCell ⟨gl, a, none⟩ (.int .i32 (v : Nat))))) := hFO2.drewN 1
    have HF2d := Lib.hid hF2d
    clear d3 hF2 hF2d hFO2
    generalize hW2 : W1.setCell ⟨gl, a, none⟩ (.int .i32 (v : Nat)) = W2 at *
    go_wp2
    try rw [hW2]
    clear hW2 fl kl
    obtain ⟨a1, ha1⟩ : ∃ a1, a1 = a + 1 := ⟨_, rfl⟩
    have hw64 : IntKind.i64.wrap ((a : Int) + 1) = (a1 : Int) := (IntWalk.i64_in _ (by omega)).trans (by omega)
    have hw32 : IntKind.i32.wrap (a1 : Int) = (a1 : Int) := IntWalk.i32_in _ (by omega)
    have HA1 := Lib.hid ha1
    clear ha1
    refine wp_region_still_tail 11 (by kernel_rfl) (by kernel_rfl) ?_
    simp only [List.take_succ_cons, List.take_zero, List.drop_succ_cons, List.drop_zero]
    change wpStill _ _ (World.drew W2) (fun a' => wpList _ _ _ _ a' (World.drew W2)) _ _
    repeat still_step
    refine wpStill_nil ?_
    clear d1 d3' f3 hw64 hw32
    generalize World.drew W2 = W3 at *
    have hF3 := HF2d.out.setHd hc1 a1
    have hFO3 := hFO2d.out.setP (3 + c) (.int .i32 (a1 : Nat))
    obtain ⟨_, _, _, _, d3⟩ := HF2d.out.cells
    have d3' := d3 c hc1
    dsimp only at d3'
    rw [hV] at d3'
    have f3 : W3.frozen? ⟨p, 3 + c, none⟩ = false := by obtain ⟨C, h1, _⟩ := HF2d.out.blk; exact h1.frozen _
    obtain ⟨_, d1, _, _, _⟩ := hF3.cells
    dsimp only at d1
    rw [hA] at d1
    have f1 : (W3.setCell ⟨p, 3 + c, none⟩ (.int .i32 (a1 : Nat))).frozen? ⟨p, 1, none⟩ = false := by obtain ⟨C, h1, _⟩ := hF3.blk; exact h1.frozen _
    have hF4 := Lib.hid (hF3.setAt (a := a + 1) (by omega))
    have hFO4 := Lib.hid (hFO3.setP 1 (.int .i64 ((a + 1 : Nat) : Int)))
    clear d3 hF3 hFO3
    go_wp2
    go_roundw
    case rel =>
     have h9 := HA1.out
     subst h9
     exact ⟨i + 1, _, by go_num, by omega, hat2, hF4, hok2, hstep, hFO4⟩
    case measure => simp [intOf]; omega
  ·obtain rfl : i = k := by omega
   have hE : Hid (s' = psF l i s) := by unfold Hid; rw [← hP.out, Nat.sub_self]; rfl
   go_wp2
   go_end0
   rw [← hE.out]
   exact ⟨rfl, hF.out, hFO.out⟩
end
end Go.Proofs.YtldgdofefcehnaaGreatDoor
