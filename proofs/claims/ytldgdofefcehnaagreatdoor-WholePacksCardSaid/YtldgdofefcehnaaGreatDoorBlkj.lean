/-
  THE CONTRACT OF block's Count. No conditions.
-/
import Derived.Test.YtldgdofefcehnaaGreatDoorBlk
import Derived.Test.YtldgdofefcehnaaGreatDoorSym
import Derived.Test.YtldgdofefcehnaaGreatDoorCanE
import Derived.Test.YtldgdofefcehnaaGreatDoorUnb
import Derived.Deep.OwnRows
namespace Go.Proofs.YtldgdofefcehnaaGreatDoor
open Go.RowKit
set_option maxRecDepth 1000000
set_option linter.unusedVariables false
def bump (f : Nat → Nat) (k : Nat) : Nat → Nat := fun s => if s = k then f s + 1 else f s
def fR (n : Nat) (f : Nat → Nat) : List Int := (List.range n).map fun s => (f s : Int)
theorem fR_length (n : Nat) (f : Nat → Nat) : (fR n f).length = n := by simp [fR]
theorem fR_at {n i : Nat} (f : Nat → Nat) (h : i < n) : gi (fR n f) i = (f i : Int) := by simp [fR, gi, h]
theorem fR_bump {n k : Nat} (f : Nat → Nat) (h : k < n) : (iC (fR n f)).set k (.int .i64 ((f k : Nat) + 1 : Int)) = iC (fR n (bump f k)) := by
 refine List.ext_getElem (by simp [iC, fR]) fun i h1 h2 => ?_
 simp only [iC, fR, List.getElem_set, List.getElem_map, List.getElem_range, bump]
 by_cases e : k = i
 ·subst e; simp
 ·rw [if_neg e, if_neg (fun h => e h.symm)]
def lStep (f : Nat → Nat) (t : Tok) : Nat → Nat := if t.len = 0 then bump f t.lit.n else if IsM t then bump f (lenC t.len) else f
def dStep (f : Nat → Nat) (t : Tok) : Nat → Nat := if t.len = 0 then f else if IsM t then bump f (dstC t.dist) else f
structure CntS (w W : World) (gl gd : Nat) (f d : Nat → Nat) : Prop where
 lits : W.ownsRow w.heap.size 3 1 (.slice (some ⟨gl, 0, none⟩) 286 286) 286 (iC (fR 286 f))
 dists : W.ownsRow w.heap.size 3 1 (.slice (some ⟨gd, 0, none⟩) 30 30) 30 (iC (fR 30 d))
 keep : Below w.heap.size w W
 ne : gl ≠ gd
namespace CntS
variable {w W : World} {gl gd : Nat} {f d : Nat → Nat}
theorem alloc (h : CntS w W gl gd f d) (o : Obj) : CntS w (W.alloc o) gl gd f d := ⟨h.lits.alloc o, h.dists.alloc o, h.keep.alloc h.keep.size o, h.ne⟩
theorem below {W' : World} (h : CntS w W gl gd f d) (hb : Below W.heap.size W W') : CntS w W' gl gd f d := ⟨own_below h.lits hb, own_below h.dists hb, h.keep.trans (hb.mono h.keep.size), h.ne⟩
theorem setGrown (W : World) (g k : Nat) (v : Value) : W.grownBy (W.setCell ⟨g, k, none⟩ v) (some g) := ⟨rfl, rfl, rfl, by simp [World.setCell], fun j hj hne => Below.heap_setCell _ _ _ _ (fun e => hne (by simp at e; rw [e]))⟩
theorem bumpL (h : CntS w W gl gd f d) {k : Nat} (hk : k < 286) : CntS w (W.setCell ⟨gl, k, none⟩ (.int .i64 ((f k : Nat) + 1 : Int))) gl gd (bump f k) d := by
 refine ⟨?_, h.dists.kept (setGrown W gl k _) (.inr fun e => h.ne (by simpa [Value.ownBlock] using e.symm)), h.keep.setCell (h.lits.lt gl rfl).1 _, h.ne⟩
 have h1 := (h.lits.stored k (.int .i64 ((f k : Nat) + 1 : Int))).1
 rw [fR_bump f hk] at h1
 exact h1
theorem bumpD (h : CntS w W gl gd f d) {k : Nat} (hk : k < 30) : CntS w (W.setCell ⟨gd, k, none⟩ (.int .i64 ((d k : Nat) + 1 : Int))) gl gd f (bump d k) := by
 refine ⟨h.lits.kept (setGrown W gd k _) (.inr fun e => h.ne (by simpa [Value.ownBlock] using e)), ?_, h.keep.setCell (h.dists.lt gd rfl).1 _, h.ne⟩
 have h1 := (h.dists.stored k (.int .i64 ((d k : Nat) + 1 : Int))).1
 rw [fR_bump d hk] at h1
 exact h1
theorem cellL (h : CntS w W gl gd f d) {k : Nat} (hk : k < 286) : W.cell? ⟨gl, k, none⟩ = some (.int .i64 (f k : Nat)) ∧ W.frozen? ⟨gl, k, none⟩ = false := by
 refine ⟨?_, h.lits.frozenAt k⟩
 rw [h.lits.cellAt k (by omega), iC_at (by rw [fR_length]; exact hk), fR_at f hk]
theorem cellD (h : CntS w W gl gd f d) {k : Nat} (hk : k < 30) : W.cell? ⟨gd, k, none⟩ = some (.int .i64 (d k : Nat)) ∧ W.frozen? ⟨gd, k, none⟩ = false := by
 refine ⟨?_, h.dists.frozenAt k⟩
 rw [h.dists.cellAt k (by omega), iC_at (by rw [fR_length]; exact hk), fR_at d hk]
end CntS
theorem CntS.drew {w W : World} {gl gd : Nat} {f d : Nat → Nat} (h : CntS w W gl gd f d) : CntS w W.drew gl gd f d := ⟨h.lits, h.dists, below_drewN h.keep 1, h.ne⟩
theorem bump_le (f : Nat → Nat) (k s : Nat) : bump f k s ≤ f s + 1 := by unfold bump; split <;> omega
theorem lStep_le (f : Nat → Nat) (t : Tok) (s : Nat) : lStep f t s ≤ f s + 1 := by
 unfold lStep
 split
 ·exact bump_le _ _ _
 ·split
  ·exact bump_le _ _ _
  ·omega
theorem dStep_le (f : Nat → Nat) (t : Tok) (s : Nat) : dStep f t s ≤ f s + 1 := by
 unfold dStep
 split
 ·omega
 ·split
  ·exact bump_le _ _ _
  ·omega
theorem lFold_le (s : Nat) : ∀ (T : List Tok) (f : Nat → Nat), T.foldl lStep f s ≤ f s + T.length := by
 intro T
 induction T with
 | nil => intro f; exact Nat.le_refl _
 | cons t r ih =>
  intro f
  have h1 := ih (lStep f t)
  have h2 := lStep_le f t s
  rw [List.foldl_cons, List.length_cons]
  omega
theorem dFold_le (s : Nat) : ∀ (T : List Tok) (f : Nat → Nat), T.foldl dStep f s ≤ f s + T.length := by
 intro T
 induction T with
 | nil => intro f; exact Nat.le_refl _
 | cons t r ih =>
  intro f
  have h1 := ih (dStep f t)
  have h2 := dStep_le f t s
  rw [List.foldl_cons, List.length_cons]
  omega
theorem made_fR (n : Nat) : (madeCells #[Value.int .i64 0] n).toList = iC (fR n fun _ => 0) := by
 rw [toList_madeCells_one]
 refine List.ext_getElem (by simp [iC, fR]) fun i h1 h2 => ?_
 simp [iC, fR]
theorem made_own (w : World) {base : Nat} (hb : base ≤ w.heap.size) (n : Nat) (hn : n ≤ maxLen) : (w.alloc (.cells (madeCells #[Value.int .i64 0] n) 3)).ownsRow base 3 1 (.slice (some ⟨w.heap.size, 0, none⟩) n n) n (iC (fR n fun _ => 0)) := by
 have h := World.ownsRow_lit (base := base) (e := 3) (size := 1) w (madeCells #[Value.int .i64 0] n) n hb hn (by
  rw [← Array.length_toList, toList_madeCells_one]
  simp)
 rw [made_fR] at h
 exact h
theorem cnt_start (w : World) : CntS w ((w.alloc (.cells (madeCells #[Value.int .i64 0] 286) 3)).alloc (.cells (madeCells #[Value.int .i64 0] 30) 3)) w.heap.size (w.heap.size + 1) (fun _ => 0) (fun _ => 0) := by
 have h := made_own (w.alloc (.cells (madeCells #[Value.int .i64 0] 286) 3)) (base := w.heap.size) (by simp) 30 (by unfold maxLen; omega)
 rw [World.size_alloc] at h
 exact ⟨(made_own w (Nat.le_refl _) 286 (by unfold maxLen; omega)).alloc _, h, ((Below.refl _ _).alloc (Nat.le_refl _) _).alloc (by simp) _, by omega⟩
theorem cnt_start2 (w : World) : CntS w ((w.alloc (.cells (madeCells #[Value.int .i64 0] 30) 3)).alloc (.cells (madeCells #[Value.int .i64 0] 286) 3)) (w.heap.size + 1) w.heap.size (fun _ => 0) (fun _ => 0) := by
 have h := made_own (w.alloc (.cells (madeCells #[Value.int .i64 0] 30) 3)) (base := w.heap.size) (by simp) 286 (by unfold maxLen; omega)
 rw [World.size_alloc] at h
 exact ⟨h, (made_own w (Nat.le_refl _) 30 (by unfold maxLen; omega)).alloc _, ((Below.refl _ _).alloc (Nat.le_refl _) _).alloc (by simp) _, by omega⟩
set_option maxHeartbeats 4000000 in
theorem Count_c (C : Option Addr) (N c : Nat) (T : List Tok) (w : World) (hT : TRow w C N T) (hN : N ≤ 100000) (htb : Tabs w) :
  Calls Tryz.prog 29 #[.slice C N c] w fun e w' => ∃ gl gd, e = .returned (.tuple #[.slice (some ⟨gl, 0, none⟩) 286 286, .slice (some ⟨gd, 0, none⟩) 30 30]) ∧ w.heap.size ≤ gl ∧ w.heap.size ≤ gd ∧ gl ≠ gd ∧
   w'.ownsRow w.heap.size 3 1 (.slice (some ⟨gl, 0, none⟩) 286 286) 286 (iC (fR 286 (bump (T.foldl lStep fun _ => 0) 256))) ∧ w'.ownsRow w.heap.size 3 1 (.slice (some ⟨gd, 0, none⟩) 30 30) 30 (iC (fR 30 (T.foldl dStep fun _ => 0))) ∧ Below w.heap.size w w' := by
 have HTT := Lib.hid hT
 have HTB := Lib.hid htb
 have hmk1 := run_make_row' (P := Tryz.prog) 49 3 (.int .i64 0) 8 Tryz.underlying49 info_int rfl .i64 .i64 286 (by omega) (by omega)
 have hmk2 := run_make_row' (P := Tryz.prog) 49 3 (.int .i64 0) 8 Tryz.underlying49 info_int rfl .i64 .i64 30 (by omega) (by omega)
 rw [show ((286 : Nat) : Int) = 286 from rfl] at hmk1
 rw [show ((30 : Nat) : Int) = 30 from rfl] at hmk2
 clear hT htb
 go_enter Tryz.func29, Tryz.ntmps29
 go_wp2
 go_region
 all_goals
  clear hmk1 hmk2
  go_wp2
  first
   | (obtain ⟨W1, hW1⟩ : ∃ W1, W1 = (w.alloc (.cells (madeCells #[.int .i64 0] 286) 3)).alloc (.cells (madeCells #[.int .i64 0] 30) 3) := ⟨_, rfl⟩
      rw [← hW1]
      have HS1 : Hid (CntS w W1 w.heap.size (w.heap.size + 1) (fun _ => 0) (fun _ => 0)) := by rw [hW1]; exact cnt_start w
      obtain ⟨gd, hgd⟩ : ∃ g, g = w.heap.size + 1 := ⟨_, rfl⟩
      rw [← hgd] at HS1 ⊢
      obtain ⟨gl, hgl⟩ : ∃ g, g = w.heap.size := ⟨_, rfl⟩
      have HS0 : Hid (CntS w W1 gl gd (fun _ => 0) (fun _ => 0)) := by rw [hgl]; exact HS1.out
      rw [← hgl]
      clear hgl hgd hW1 HS1)
   | (obtain ⟨W1, hW1⟩ : ∃ W1, W1 = (w.alloc (.cells (madeCells #[.int .i64 0] 30) 3)).alloc (.cells (madeCells #[.int .i64 0] 286) 3) := ⟨_, rfl⟩
      rw [← hW1]
      have HS1 : Hid (CntS w W1 (w.heap.size + 1) w.heap.size (fun _ => 0) (fun _ => 0)) := by rw [hW1]; exact cnt_start2 w
      obtain ⟨gl, hgl⟩ : ∃ g, g = w.heap.size + 1 := ⟨_, rfl⟩
      rw [← hgl] at HS1 ⊢
      obtain ⟨gd, hgd⟩ : ∃ g, g = w.heap.size := ⟨_, rfl⟩
      have HS0 : Hid (CntS w W1 gl gd (fun _ => 0) (fun _ => 0)) := by rw [hgd]; exact HS1.out
      rw [← hgd]
      clear hgl hgd hW1 HS1)
  have HLEN := Lib.hid HTT.out.len
  go_loopw [16] (fun iv wr => ∃ i : Nat, i ≤ N ∧ iv = .int .i64 i ∧ Hid (CntS w wr gl gd ((T.take i).foldl lStep fun _ => 0) ((T.take i).foldl dStep fun _ => 0))) (fun iv _ => N - (intOf iv).toNat)
  case atStart => exact ⟨0, by omega, rfl, HS0.out.drew⟩
  case round =>
   clear HS0
   obtain ⟨i, hiN, rfl, HS⟩ := hrel
   by_cases hlt : i < N
   ·have hlti : (i : Int) < (N : Int) := by omega
    obtain ⟨b, off, rfl, hbl, c0, c1, c2⟩ := (HTT.out.below HS.out.keep).at_ hlt
    obtain ⟨f, hf⟩ : ∃ f, f = (T.take i).foldl lStep fun _ => 0 := ⟨_, rfl⟩
    obtain ⟨d, hd⟩ : ∃ d, d = (T.take i).foldl dStep fun _ => 0 := ⟨_, rfl⟩
    have hf2 : Hid ((T.take (i + 1)).foldl lStep (fun _ => 0) = lStep f (tg T i)) := by unfold Hid; rw [take_tg (by rw [HLEN.out]; exact hlt), List.foldl_append, ← hf]; rfl
    have hd2 : Hid ((T.take (i + 1)).foldl dStep (fun _ => 0) = dStep d (tg T i)) := by unfold Hid; rw [take_tg (by rw [HLEN.out]; exact hlt), List.foldl_append, ← hd]; rfl
    have HLF : Hid (∀ s, f s ≤ 100000 ∧ d s ≤ 100000) := fun s => by
     have h1 := lFold_le s (T.take i) (fun _ => 0)
     have h2 := dFold_le s (T.take i) (fun _ => 0)
     rw [List.length_take] at h1 h2
     rw [hf, hd]
     omega
    rw [← hf, ← hd] at HS
    clear hf hd
    obtain ⟨t, htg⟩ : ∃ t, t = tg T i := ⟨_, rfl⟩
    rw [← htg] at c0 c1 c2 hf2 hd2
    obtain ⟨x, ln, dist⟩ := t
    dsimp only at c0 c1 c2
    clear htg
    have HS2 := Lib.hid (HS.out.alloc (.cells #[.int .u8 x.n, .int .i64 ln, .int .i64 dist] 53))
    have HK := Lib.hid (Blk.new wr 53 #[.int .u8 x.n, .int .i64 ln, .int .i64 dist])
    by_cases h0 : ln = 0
    ·have hyb : (ln == 0) = true := by rw [h0]; rfl
     have hE : Hid (lStep f ⟨x, ln, dist⟩ = bump f x.n ∧ dStep d ⟨x, ln, dist⟩ = d) := ⟨if_pos h0, if_pos h0⟩
     have hx := x.lt
     obtain ⟨k0, k1⟩ := HS2.out.cellL (k := x.n) (by omega)
     have hxi : (x.n : Int) < 286 := by omega
     have HB := Lib.hid (HS2.out.bumpL (k := x.n) (by omega))
     have hyy := (HLF.out x.n).1
     obtain ⟨y, hy⟩ : ∃ y, y = f x.n := ⟨_, rfl⟩
     rw [← hy] at k0 HB hyy
     clear hy HLF
     clear h0
     go_wp2
     go_roundw
     case rel => exact ⟨i + 1, by omega, by go_num, by rw [hf2.out, hd2.out, hE.out.1, hE.out.2]; exact HB⟩
     case measure => simp [intOf]; omega
    ·have hyb : (ln == 0) = false := by rw [beq_eq_false_iff_ne]; exact h0
     by_cases hm : IsM ⟨x, ln, dist⟩
     ·have hE : Hid (lStep f ⟨x, ln, dist⟩ = bump f (lenC ln) ∧ dStep d ⟨x, ln, dist⟩ = bump d (dstC dist)) := by
       refine ⟨?_, ?_⟩
       ·unfold lStep; rw [if_neg h0, if_pos hm]
       ·unfold dStep; rw [if_neg h0, if_pos hm]
      obtain ⟨k1, hk1, hc1, -⟩ := len_ok (n := ln) ⟨hm.1, hm.2.1⟩
      obtain ⟨k2, hk2, hc2, -⟩ := dst_ok (n := dist) ⟨hm.2.2.1, hm.2.2.2⟩
      have hle : lenC ln < 286 := by omega
      have hde : dstC dist < 30 := by omega
      have HIM := isMatchB_c ⟨x, ln, dist⟩ (wr.alloc (.cells #[.int .u8 x.n, .int .i64 ln, .int .i64 dist] 53))
      rw [decide_eq_true hm] at HIM
      have HI := Lib.hid HIM
      clear h0 hm hc1 hc2 hk1 hk2 HIM
      go_wp2_with fail
      refine HI.out.mono ?_
      rintro e w3 ⟨rfl, hb3⟩
      have HS3 := Lib.hid (HS2.out.below hb3)
      have HK3 := Lib.hid (HK.out.below HK.out.lt hb3)
      have HT3 := Lib.hid (HTB.out.below HS3.out.keep)
      obtain ⟨⟨q0, q1, q2⟩, -⟩ := HK3.out.trip
      have HLC := Lib.hid (Length_c ln w3 HT3.out)
      have HDC := Lib.hid (Dist_c dist w3 HT3.out)
      generalize lenC ln = e1 at *
      generalize lenX ln = s1 at *
      generalize lenV ln = v1 at *
      generalize dstC dist = e2 at *
      generalize dstX dist = s2 at *
      generalize dstV dist = v2 at *
      have hy1 := (HLF.out e1).1
      have hy2 := (HLF.out e2).2
      obtain ⟨k0, k1⟩ := HS3.out.cellL hle
      have HB1 := Lib.hid (HS3.out.bumpL hle)
      obtain ⟨j0, j1⟩ := HB1.out.cellD hde
      have HB := Lib.hid (HB1.out.bumpD hde)
      obtain ⟨y, hy⟩ : ∃ y, y = f e1 := ⟨_, rfl⟩
      rw [← hy] at k0 HB1 HB hy1 j0 j1
      obtain ⟨u, hu⟩ : ∃ u, u = d e2 := ⟨_, rfl⟩
      rw [← hu] at j0 HB hy2
      have hei : (e1 : Int) < 286 := by omega
      have hdi : (e2 : Int) < 30 := by omega
      clear hy hu HLF HI hb3 HS2 HK
      go_wp2_with fail
      refine HLC.out.mono ?_
      rintro e _ ⟨rfl, rfl⟩
      go_wp2_with fail
      refine HDC.out.mono ?_
      rintro e _ ⟨rfl, rfl⟩
      go_wp2
      go_roundw
      case rel => exact ⟨i + 1, by omega, by go_num, by rw [hf2.out, hd2.out, hE.out.1, hE.out.2]; exact HB⟩
      case measure => simp [intOf]; omega
     ·have hE : Hid (lStep f ⟨x, ln, dist⟩ = f ∧ dStep d ⟨x, ln, dist⟩ = d) := by
       refine ⟨?_, ?_⟩
       ·unfold lStep; rw [if_neg h0, if_neg hm]
       ·unfold dStep; rw [if_neg h0, if_neg hm]
      have HIM := isMatchB_c ⟨x, ln, dist⟩ (wr.alloc (.cells #[.int .u8 x.n, .int .i64 ln, .int .i64 dist] 53))
      rw [decide_eq_false hm] at HIM
      have HI := Lib.hid HIM
      clear h0 hm HIM
      go_wp2_with fail
      refine HI.out.mono ?_
      rintro e w3 ⟨rfl, hb3⟩
      have HS3 := Lib.hid (HS2.out.below hb3)
      clear HI hb3 HS2 HK HLF
      go_wp2
      go_roundw
      case rel => exact ⟨i + 1, by omega, by go_num, by rw [hf2.out, hd2.out, hE.out.1, hE.out.2]; exact HS3⟩
      case measure => simp [intOf]; omega
   ·obtain rfl : i = N := by omega
    have hlti : ¬ (i : Int) < (i : Int) := by omega
    rw [List.take_of_length_le (by rw [HLEN.out]; exact Nat.le_refl _)] at HS
    have hyy : T.foldl lStep (fun _ => 0) 256 ≤ 100000 := by have := lFold_le 256 T (fun _ => 0); have := HLEN.out; omega
    obtain ⟨k0, k1⟩ := HS.out.cellL (k := 256) (by omega)
    have HB := Lib.hid (HS.out.bumpL (k := 256) (by omega))
    obtain ⟨y, hy⟩ : ∃ y, y = T.foldl lStep (fun _ => 0) 256 := ⟨_, rfl⟩
    rw [← hy] at k0 HB hyy
    clear hy HS
    go_wp2
    go_ret2
    exact ⟨gl, gd, rfl, (HB.out.lits.lt gl rfl).1, (HB.out.dists.lt gd rfl).1, HB.out.ne, HB.out.lits, HB.out.dists, HB.out.keep⟩
end Go.Proofs.YtldgdofefcehnaaGreatDoor
