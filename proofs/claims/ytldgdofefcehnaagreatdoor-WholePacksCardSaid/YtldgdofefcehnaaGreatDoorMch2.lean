/-
  THE CONTRACT OF the finder's longest. No conditions. (Written by wip/gen13h.py.)
-/
import Derived.Test.YtldgdofefcehnaaGreatDoorMcg
namespace Go.Proofs.YtldgdofefcehnaaGreatDoor
open Go.RowKit
set_option maxRecDepth 1000000
set_option linter.unusedVariables false
theorem Blk.three {w : World} {g : Nat} {t : TypeId} {a b c : Value} (h : Blk w g t #[a, b, c]) :
  (w.cell? ⟨g, 0, none⟩ = some a ∧ w.cell? ⟨g, 1, none⟩ = some b ∧ w.cell? ⟨g, 2, none⟩ = some c) ∧ (w.frozen? ⟨g, 0, none⟩ = false ∧ w.frozen? ⟨g, 1, none⟩ = false ∧ w.frozen? ⟨g, 2, none⟩ = false) :=
 ⟨⟨by simpa using h.cell 0, by simpa using h.cell 1, by simpa using h.cell 2⟩, h.frozen 0, h.frozen 1, h.frozen 2⟩
theorem wpList_ldT {P : Program} {w : World} {ops : Array Oper} {rest : List Oper} {a : Act} {Q : Exit → Act → World → Prop} {dst : Option Tmp} {p : Operand} {T ty : TypeId} {pos : String} {aft : Array Edge} {g : Nat} {v : Value}
  (hrun : Sem.run P (loadVar T ⟨g, 0, none⟩) w = .ok v w) (hp : a.eval p = .pointer (some ⟨g, 0, none⟩)) (hK : wpList P ops Q rest (a.put dst v) w) :
  wpList P ops Q ({ dst := dst, op := Op.load T p, type := ty, pos := pos, after := aft, guard := none } :: rest) a w := wpList_load_var g v hp hrun hK
theorem wpList_stT {P : Program} {w : World} {ops : Array Oper} {rest : List Oper} {a : Act} {Q : Exit → Act → World → Prop} {p x : Operand} {T ty : TypeId} {pos : String} {aft : Array Edge} {g : Nat} {v : Value} {w' : World}
  (hrun : Sem.run P (storeVar T ⟨g, 0, none⟩ v) w = .ok () w') (hp : a.eval p = .pointer (some ⟨g, 0, none⟩)) (hx : a.eval x = v) (hK : wpList P ops Q rest a w') :
  wpList P ops Q ({ dst := none, op := Op.store T p x, type := ty, pos := pos, after := aft, guard := none } :: rest) a w := wpList_store_var g v w' hp hx hrun hK
theorem blk_setRowT {w : World} {g k : Nat} (h : k ≠ g) (D : Array Value) : (w.setRow g D).heap[k]? = w.heap[k]? := by
 simp [World.setRow, Array.getElem?_modify]
 intro e
 omega
theorem below_setRowT {B : Nat} {a w : World} (h : Below B a w) {g : Nat} (hg : B ≤ g) (D : Array Value) : Below B a (w.setRow g D) :=
 ⟨h.os, h.tape, h.output, by simpa [World.setRow] using h.size, fun k hk => (blk_setRowT (by omega) D).trans (h.block k hk)⟩
theorem info_tk : (Tryz.prog.info? 53).map (·.size) = some 3 := by kernel_rfl
theorem load_tk {w : World} {g : Nat} {C : Array Value} (h : Blk w g 53 C) (hC : C.size = 3) : Sem.run Tryz.prog (loadVar 53 ⟨g, 0, none⟩) w = .ok (.agg C) w :=
 run_loadVar_row w g _ _ _ (0, 0) _ h Tryz.underlying53 rfl (by rw [info_tk, hC])
theorem store_tk {w : World} {g : Nat} {C : Array Value} (h : Blk w g 53 C) (hC : C.size = 3) (a b : Int) :
  Sem.run Tryz.prog (storeVar 53 ⟨g, 0, none⟩ (.agg #[.int .u8 0, .int .i64 a, .int .i64 b])) w = .ok () (w.setRow g #[.int .u8 0, .int .i64 a, .int .i64 b]) :=
 run_storeVar_row w g _ _ _ _ h (by rw [info_tk]; rfl) (by rw [hC]; rfl) (by simp [Value.oneCell'])
def tkA (t : Nat × Nat) : Value := .agg #[.int .u8 0, .int .i64 (t.1 : Nat), .int .i64 (t.2 : Nat)]
section
variable {w : World} {H p gl : Nat} {B : Option Addr} {n cb : Nat} {l : List F} {lev : Nat} {s : Fs}
set_option maxHeartbeats 2000000 in
theorem longest_c (h : Fin_ w H p gl B n cb l lev s) (hok : FsOk s) :
  Calls Tryz.prog 55 #[.pointer (some ⟨p, 0, none⟩)] w fun e w' => e = .returned (tkA (lgF l lev s)) ∧ Below w.heap.size w w' := by
 have hn := h.few.1
 have hle := h.le
 have hlen := h.len_
 have hlt := h.lt
 have HB0 : Hid (Below w.heap.size w ((w.alloc (.cells #[.int .u8 0, .int .i64 0, .int .i64 0] 53)).alloc (.cells #[.int .u8 0, .int .i64 0, .int .i64 0] 53))) := ((Below.refl _ _).alloc (Nat.le_refl _) _).alloc (by simp) _
 have HF0 := Lib.hid (h.below HB0.out)
 have HOK := Lib.hid hok
 have HH := Lib.hid h
 have k1 : Blk ((w.alloc (.cells #[.int .u8 0, .int .i64 0, .int .i64 0] 53)).alloc (.cells #[.int .u8 0, .int .i64 0, .int .i64 0] 53)) w.heap.size 53 #[.int .u8 0, .int .i64 0, .int .i64 0] := (Blk.new w _ _).below (by simp) ((Below.refl _ _).alloc (Nat.le_refl _) _)
 have k2 := Blk.new (w.alloc (.cells #[.int .u8 0, .int .i64 0, .int .i64 0] 53)) 53 #[.int .u8 0, .int .i64 0, .int .i64 0]
 simp only [World.size_alloc] at k2
 have K1 := Lib.hid k1
 have K2 := Lib.hid k2
 clear k1 k2
 cases hc : chF l s.at_ with
 | none =>
  have hE : Hid (lgF l lev s = (0, 0)) := by unfold Hid lgF; rw [hc]
  have HCH := Lib.hid (chain_no HF0.out hc)
  clear h hok hc hlen hle
  go_enter Tryz.func55, Tryz.ntmps55
  go_wp2_with fail
  refine HCH.out.mono ?_
  rintro e w1 ⟨rfl, q, rfl⟩
  have k1' : Blk (((w.alloc (.cells #[.int .u8 0, .int .i64 0, .int .i64 0] 53)).alloc (.cells #[.int .u8 0, .int .i64 0, .int .i64 0] 53)).drewN q) w.heap.size 53 #[.int .u8 0, .int .i64 0, .int .i64 0] := K1.out
  have k2' : Blk (((w.alloc (.cells #[.int .u8 0, .int .i64 0, .int .i64 0] 53)).alloc (.cells #[.int .u8 0, .int .i64 0, .int .i64 0] 53)).drewN q) (w.heap.size + 1) 53 #[.int .u8 0, .int .i64 0, .int .i64 0] := K2.out
  have hbel := below_drewN HB0.out q
  generalize ((w.alloc (.cells #[.int .u8 0, .int .i64 0, .int .i64 0] 53)).alloc (.cells #[.int .u8 0, .int .i64 0, .int .i64 0] 53)).drewN q = W1 at *
  have tld := load_tk k2' rfl
  have tst := store_tk k1' rfl (0 : Int) (0 : Int)
  obtain ⟨⟨z0, z1, z2⟩, _⟩ := Blk.three (k1'.setRow #[.int .u8 0, .int .i64 (0 : Int), .int .i64 (0 : Int)])
  have HBL := Lib.hid (below_setRowT hbel (Nat.le_refl _) #[.int .u8 0, .int .i64 (0 : Int), .int .i64 (0 : Int)])
  go_wp2_with (first
   | (with_reducible refine wpList_ldT tld (by with_unfolding_all rfl) ?_)
   | (with_reducible refine wpList_stT tst (by with_unfolding_all rfl) (by with_unfolding_all rfl) ?_))
  refine bodyPost_ret (v := .agg #[.int .u8 0, .int .i64 (0 : Int), .int .i64 (0 : Int)]) (by simp [results, Tryz.results55, go_sem, z0, z1, z2]) rfl ?_
  rw [hE.out]
  exact ⟨rfl, HBL.out⟩
 | some c =>
  obtain ⟨hc1, hc2⟩ := chF_lt hc
  obtain ⟨mo, hmo⟩ : ∃ mo, mo = min (l.length - s.at_) 258 := ⟨_, rfl⟩
  obtain ⟨L, hL⟩ : ∃ L, L = lookF lev := ⟨_, rfl⟩
  have hE : Hid (lgF l lev s = lgGo l s.lk s.at_ mo L (s.hd c) (0, 0)) := by unfold Hid lgF; rw [hc, hmo, hL]
  have HCH := Lib.hid (chain_ok HF0.out hc)
  have hhd := hok.hd c
  have hL1100 : L ≤ 1100 := by
   rw [hL]; unfold lookF
   have := h.few.2
   split
   ·omega
   ·have h1 : 2 ^ (lev - 1) ≤ 2 ^ 8 := Nat.pow_le_pow_right (by decide) (by omega)
    omega
  obtain ⟨d, hd⟩ : ∃ d, d = n - s.at_ := ⟨_, rfl⟩
  have hw0 : IntKind.i64.wrap ((n : Int) - (s.at_ : Int)) = (d : Int) := (IntWalk.i64_in _ (by omega)).trans (by omega)
  have hmin : min (d : Int) 258 = (mo : Int) := by omega
  have hmo1 : mo ≤ 258 ∧ s.at_ + mo ≤ n ∧ mo ≤ n - s.at_ ∧ (mo = 258 ∨ s.at_ + mo = n) := by omega
  have HMO := Lib.hid hmo1
  have hmob : mo ≤ 258 := hmo1.1
  have HLK : Hid (∀ i, s.lk i ≤ i) := hok.lk
  have HLEN := Lib.hid hlen
  have HL := Lib.hid hL
  clear h hok hc hmo hL hlen hd hmo1
  go_enter Tryz.func55, Tryz.ntmps55
  go_wp2_with fail
  refine HCH.out.mono ?_
  rintro e w1 ⟨rfl, q, rfl⟩
  have k1 : Blk (((w.alloc (.cells #[.int .u8 0, .int .i64 0, .int .i64 0] 53)).alloc (.cells #[.int .u8 0, .int .i64 0, .int .i64 0] 53)).drewN q) w.heap.size 53 #[.int .u8 0, .int .i64 0, .int .i64 0] := K1.out
  have k2 : Blk (((w.alloc (.cells #[.int .u8 0, .int .i64 0, .int .i64 0] 53)).alloc (.cells #[.int .u8 0, .int .i64 0, .int .i64 0] 53)).drewN q) (w.heap.size + 1) 53 #[.int .u8 0, .int .i64 0, .int .i64 0] := K2.out
  have hbel := below_drewN HB0.out q
  have hF1 := HH.out.below hbel
  clear K1 K2 HCH HF0 HB0
  generalize ((w.alloc (.cells #[.int .u8 0, .int .i64 0, .int .i64 0] 53)).alloc (.cells #[.int .u8 0, .int .i64 0, .int .i64 0] 53)).drewN q = W1 at *
  obtain ⟨c0, c1, _, _, c3⟩ := hF1.cells
  have c3' := c3 c hc1
  have HF1 := Lib.hid hF1
  have KK1 := Lib.hid k1
  have KK2 := Lib.hid k2
  have HBL1 := Lib.hid hbel
  have hci : (c : Int) < 32768 := by omega
  have HLOOK := Lib.hid (fun q => looks_c (hF1.drewN q))
  rw [← HL.out] at HLOOK
  clear c3 hF1 k1 k2 hbel
  obtain ⟨v, hv⟩ : ∃ v, v = s.hd c := ⟨_, rfl⟩
  rw [← hv] at c3' hhd hE
  obtain ⟨a, ha⟩ : ∃ a, a = s.at_ := ⟨_, rfl⟩
  rw [← ha] at c1 hhd hE hle hw0 HMO
  have HA := Lib.hid ha
  clear hv ha
  obtain ⟨zv, hzv⟩ : ∃ zv : Int, zv = (v : Int) - 1 := ⟨_, rfl⟩
  have hzv1 : (v : Int) - 1 = zv := hzv.symm
  have hzvb : -1 ≤ zv ∧ zv ≤ 100000 := by omega
  have HZV := Lib.hid hzv
  clear hzv
  go_wp2
  go_quiet (fail)
  go_wp2_with fail
  refine (HLOOK.out _).mono ?_
  rintro e w2 ⟨rfl, rfl⟩
  have hF2 := HF1.out.drewN nq
  have k1 : Blk (W1.drewN nq) w.heap.size 53 #[.int .u8 0, .int .i64 0, .int .i64 0] := KK1.out
  have k2 : Blk (W1.drewN nq) (w.heap.size + 1) 53 #[.int .u8 0, .int .i64 0, .int .i64 0] := KK2.out
  have hbel : Below w.heap.size w (W1.drewN nq) := below_drewN HBL1.out nq
  have KK1 := Lib.hid k1
  have KK2 := Lib.hid k2
  have HBL2 := Lib.hid hbel
  clear c0 c1 c3' hF2 k1 k2 hbel HBL1 HF1
  generalize W1.drewN nq = W2 at *
  go_wp2
  go_loopw [7, 38] (fun pv kv wr => ∃ (i p1 t1 t2 : Nat) (z : Int), kv = .int .i64 i ∧ i ≤ L ∧ pv = .int .i64 z ∧ Hid (z = (p1 : Int) - 1) ∧ p1 ≤ a ∧ t1 ≤ 258 ∧ Hid (MtOk l a (t1, t2)) ∧ Hid (t1 ≤ mo) ∧ Hid (Blk wr w.heap.size 53 #[.int .u8 0, .int .i64 0, .int .i64 0]) ∧ Hid (Blk wr (w.heap.size + 1) 53 #[.int .u8 0, .int .i64 (t1 : Nat), .int .i64 (t2 : Nat)]) ∧ Hid (Below w.heap.size w wr) ∧ Hid (lgGo l s.lk a mo (L - i) p1 (t1, t2) = lgF l lev s)) (fun _ kv _ => L - (intOf kv).toNat)
  case atStart => exact ⟨0, v, 0, 0, zv, rfl, by omega, rfl, HZV.out, hhd, by omega, ⟨⟨by show 0 ≤ 258; omega, by show a + 0 ≤ l.length; have := HLEN.out; omega⟩, fun h => absurd rfl h⟩, Nat.zero_le _, KK1, KK2, HBL2, hE.out.symm⟩
  case round =>
   obtain ⟨i, p1, t1, t2, z, rfl, hi, rfl, hz, hp1, ht258, hM, htm, hk1, hk2, hbl, hG⟩ := hrel
   obtain ⟨⟨d0, d1, d2⟩, _⟩ := hk2.out.three
   by_cases hlt2 : i < L
   ·have hlti : (i : Int) < (L : Int) := by omega
    have hF3 := HH.out.below hbl.out
    obtain ⟨c0, c1, _, c4, _⟩ := hF3.cells
    rw [← HA.out] at c1
    by_cases hstop : p1 = 0 ∨ 32768 + p1 < a + 1 ∨ t1 = mo
    ·have hR : Hid (lgF l lev s = (t1, t2)) := by
      unfold Hid
      rw [← hG.out, show L - i = L - i - 1 + 1 by omega, lgGo, if_pos hstop]
     have hz' := hz.out
     have hparts : z < 0 ∨ (¬ z < 0 ∧ (32768 : Int) < (a : Int) - z) ∨ (¬ z < 0 ∧ ¬ (32768 : Int) < (a : Int) - z ∧ t1 = mo) := by omega
     have hzb : -1 ≤ z ∧ z ≤ 100000 := by omega
     clear hz' hstop
     rcases hparts with g1 | ⟨g1, g2⟩ | ⟨g1, g2, g3⟩
     ·clear c0 c1 c4
      have tld := load_tk hk2.out rfl
      have tst := store_tk hk1.out rfl (t1 : Int) (t2 : Int)
      obtain ⟨⟨z0, z1, z2⟩, _⟩ := Blk.three (hk1.out.setRow #[.int .u8 0, .int .i64 (t1 : Int), .int .i64 (t2 : Int)])
      have HBL := Lib.hid (below_setRowT hbl.out (Nat.le_refl _) #[.int .u8 0, .int .i64 (t1 : Int), .int .i64 (t2 : Int)])
      go_wp2_with (first
       | (with_reducible refine wpList_ldT tld (by with_unfolding_all rfl) ?_)
       | (with_reducible refine wpList_stT tst (by with_unfolding_all rfl) (by with_unfolding_all rfl) ?_))
      refine bodyPost_ret (v := .agg #[.int .u8 0, .int .i64 (t1 : Int), .int .i64 (t2 : Int)]) (by simp [results, Tryz.results55, go_sem, z0, z1, z2]) rfl ?_
      rw [hR.out]
      exact ⟨rfl, HBL.out⟩
     ·clear c4
      have tld := load_tk hk2.out rfl
      have tst := store_tk hk1.out rfl (t1 : Int) (t2 : Int)
      obtain ⟨⟨z0, z1, z2⟩, _⟩ := Blk.three (hk1.out.setRow #[.int .u8 0, .int .i64 (t1 : Int), .int .i64 (t2 : Int)])
      have HBL := Lib.hid (below_setRowT hbl.out (Nat.le_refl _) #[.int .u8 0, .int .i64 (t1 : Int), .int .i64 (t2 : Int)])
      go_wp2_with (first
       | (with_reducible refine wpList_ldT tld (by with_unfolding_all rfl) ?_)
       | (with_reducible refine wpList_stT tst (by with_unfolding_all rfl) (by with_unfolding_all rfl) ?_))
      refine bodyPost_ret (v := .agg #[.int .u8 0, .int .i64 (t1 : Int), .int .i64 (t2 : Int)]) (by simp [results, Tryz.results55, go_sem, z0, z1, z2]) rfl ?_
      rw [hR.out]
      exact ⟨rfl, HBL.out⟩
     ·have g3' : ((t1 : Int) == (mo : Int)) = true := by rw [beq_iff_eq]; omega
      clear g3
      have tld := load_tk hk2.out rfl
      have tst := store_tk hk1.out rfl (t1 : Int) (t2 : Int)
      obtain ⟨⟨z0, z1, z2⟩, _⟩ := Blk.three (hk1.out.setRow #[.int .u8 0, .int .i64 (t1 : Int), .int .i64 (t2 : Int)])
      have HBL := Lib.hid (below_setRowT hbl.out (Nat.le_refl _) #[.int .u8 0, .int .i64 (t1 : Int), .int .i64 (t2 : Int)])
      go_wp2_with (first
       | (with_reducible refine wpList_ldT tld (by with_unfolding_all rfl) ?_)
       | (with_reducible refine wpList_stT tst (by with_unfolding_all rfl) (by with_unfolding_all rfl) ?_))
      refine bodyPost_ret (v := .agg #[.int .u8 0, .int .i64 (t1 : Int), .int .i64 (t2 : Int)]) (by simp [results, Tryz.results55, go_sem, z0, z1, z2]) rfl ?_
      rw [hR.out]
      exact ⟨rfl, HBL.out⟩
    ·obtain ⟨pl, hpl⟩ : ∃ pl, pl = p1 - 1 := ⟨_, rfl⟩
     have hz' := hz.out
     obtain rfl : z = (pl : Int) := by omega
     have g1 : ¬ (pl : Int) < 0 := by omega
     have g2 : ¬ (32768 : Int) < (a : Int) - (pl : Int) := by omega
     have g3 : ((t1 : Int) == (mo : Int)) = false := by rw [beq_eq_false_iff_ne]; omega
     have hmo2 := HMO.out
     have htm2 := htm.out
     have hlen := HLEN.out
     have hpla : pl < a := by omega
     have hdist : a - pl ≤ 32768 := by omega
     have hG2 : Hid (lgGo l s.lk a mo (L - (i + 1)) (s.lk pl) (lgStep l a pl (t1, t2)) = lgF l lev s) := by
      unfold Hid
      rw [← hG.out, show L - i = L - (i + 1) + 1 by omega, lgGo, if_neg hstop, ← hpl]
     have hM2 := lgStep_ok hM.out hpla hdist
     obtain ⟨A1, hA1⟩ : ∃ A1, A1 = a + t1 := ⟨_, rfl⟩
     obtain ⟨P1, hP1⟩ : ∃ P1, P1 = pl + t1 := ⟨_, rfl⟩
     have hA1n : A1 < n := by omega
     have hP1n : P1 < n := by omega
     have w1 : IntKind.i64.wrap ((pl : Int) + (t1 : Int)) = (P1 : Int) := (IntWalk.i64_in _ (by omega)).trans (by omega)
     have w2 : IntKind.i64.wrap ((a : Int) + (t1 : Int)) = (A1 : Int) := (IntWalk.i64_in _ (by omega)).trans (by omega)
     obtain ⟨b1, o1, e1, _, q1⟩ := hF3.row.row.at_ (k := P1) hP1n
     obtain ⟨b2, o2, e2, _, q2⟩ := hF3.row.row.at_ (k := A1) hA1n
     rw [e1] at c0 e2
     injection e2 with e2
     injection e2 with e3 e4 _
     subst e3 e4
     have i1 : (P1 : Int) < (n : Int) := by omega
     have i2 : (A1 : Int) < (n : Int) := by omega
     have i3 : (pl : Int) < (n : Int) := by omega
     obtain ⟨x, hx⟩ : ∃ x, x = gt l P1 := ⟨_, rfl⟩
     obtain ⟨y, hy⟩ : ∃ y, y = gt l A1 := ⟨_, rfl⟩
     rw [← hx] at q1
     rw [← hy] at q2
     have hne := n_beq2 x y
     have ql := hF3.lks.cellAt pl (by omega)
     rw [l32_at (by omega)] at ql
     obtain ⟨v', hv'⟩ : ∃ v', v' = s.lk pl := ⟨_, rfl⟩
     rw [← hv'] at ql hG2
     have hv'le : v' ≤ a := by rw [hv']; have := HLK.out pl; omega
     obtain ⟨z', hz2⟩ : ∃ z' : Int, z' = (v' : Int) - 1 := ⟨_, rfl⟩
     have hz3 : (v' : Int) - 1 = z' := hz2.symm
     have hz4 : -1 ≤ z' ∧ z' ≤ 100000 := by omega
     have HZ2 := Lib.hid hz2
     have HROW := Lib.hid hF3.row
     have HF3 := Lib.hid hF3
     have HIa : Hid (gt l (pl + t1) = x ∧ gt l (a + t1) = y) := ⟨by rw [hx, hP1], by rw [hy, hA1]⟩
     have E1 := Lib.hid e1
     clear hz' hmo2 htm2 hlen hpl hA1 hP1 hx hy hv' hz2 hF3 hstop e1
     by_cases hE2 : x = y
     ·rw [decide_eq_true hE2] at hne
      have hsm := smF_is l a pl
      obtain ⟨N, hN⟩ : ∃ N, N = smF l a pl := ⟨_, rfl⟩
      have hN258 : N ≤ 258 := by rw [hN]; exact hsm.le
      have hins := hsm.ins
      have HSA := Lib.hid (fun (q : Nat) => MSame_c B n cb l (wr.drewN q) (HROW.out.drewN q) hn (a : Int) (pl : Int) (by omega) (by omega))
      have hsz : smZ l (a : Int) (pl : Int) = N := by unfold smZ; rw [if_neg (by omega), hN]; rfl
      rw [hsz, E1.out] at HSA
      have hup : lgStep l a pl (t1, t2) = if 3 ≤ N ∧ t1 < N then (N, a - pl) else (t1, t2) := by
       unfold lgStep
       rw [if_pos (by show gt l (pl + t1) = gt l (a + t1); rw [HIa.out.1, HIa.out.2, hE2]), ← hN]
      have HNM : Hid (N ≤ mo) := by
       have h1 := HMO.out
       have h2 := HLEN.out
       unfold Hid
       rw [← hN] at hins
       omega
      clear hsm hins hN hsz hE2
      by_cases hu : 3 ≤ N ∧ t1 < N
      ·rw [if_pos hu] at hup
       rw [hup] at hG2 hM2
       have u1 : (3 : Int) ≤ (N : Int) := by omega
       have u2 : (t1 : Int) < (N : Int) := by omega
       obtain ⟨dd, hdd⟩ : ∃ dd, dd = a - pl := ⟨_, rfl⟩
       have hdd1 : (a : Int) - (pl : Int) = (dd : Int) := by omega
       rw [← hdd] at hG2 hM2
       have HM2 := Lib.hid hM2
       have hst : ∀ q, Sem.run Tryz.prog (storeVar 53 ⟨w.heap.size + 1, 0, none⟩ (.agg #[.int .u8 0, .int .i64 (N : Int), .int .i64 (dd : Int)])) (wr.drewN q) = .ok () ((wr.drewN q).setRow (w.heap.size + 1) #[.int .u8 0, .int .i64 (N : Int), .int .i64 (dd : Int)]) := fun q => store_tk (w := wr.drewN q) hk2.out rfl (N : Int) (dd : Int)
       have hbl2 : Hid (∀ q, Below w.heap.size w ((wr.drewN q).setRow (w.heap.size + 1) #[.int .u8 0, .int .i64 (N : Int), .int .i64 (dd : Int)])) := fun q => below_setRowT (below_drewN hbl.out q) (by omega) _
       have hc4 : ∀ q, ((wr.drewN q).setRow (w.heap.size + 1) #[.int .u8 0, .int .i64 (N : Int), .int .i64 (dd : Int)]).cell? ⟨p, 32771, none⟩ = some (.slice (some ⟨gl, 0, none⟩) n n) := fun q => (HH.out.below (hbl2.out q)).cells.2.2.2.1
       have hql : ∀ q, ((wr.drewN q).setRow (w.heap.size + 1) #[.int .u8 0, .int .i64 (N : Int), .int .i64 (dd : Int)]).cell? ⟨gl, pl, none⟩ = some (.int .i32 (v' : Nat)) := fun q => by
        rw [World.cell?_of_block (w := wr) (a := ⟨gl, pl, none⟩) (blk_setRowT (w := wr.drewN q) (by have := (HH.out.lks.lt gl rfl).2; show gl ≠ _; omega) _)]
        exact ql
       have HK1' : Hid (∀ q, Blk ((wr.drewN q).setRow (w.heap.size + 1) #[.int .u8 0, .int .i64 (N : Int), .int .i64 (dd : Int)]) w.heap.size 53 #[.int .u8 0, .int .i64 0, .int .i64 0]) := fun q => (blk_setRowT (w := wr.drewN q) (by omega) _).trans hk1.out
       have HK2' : Hid (∀ q, Blk ((wr.drewN q).setRow (w.heap.size + 1) #[.int .u8 0, .int .i64 (N : Int), .int .i64 (dd : Int)]) (w.heap.size + 1) 53 #[.int .u8 0, .int .i64 (N : Nat), .int .i64 (dd : Nat)]) := fun q => Blk.setRow (w := wr.drewN q) hk2.out _
       clear hup hu hM2 hdd hM
       go_wp2
       go_quiet (fail)
       go_wp2
       go_quiet ((go_at_call 107; first | exact quiet_add (HSA.out _) | exact quiet_one (HSA.out _)))
       go_wp2_with (first
        | (with_reducible refine wpList_stT (hst _) (by with_unfolding_all rfl) (by with_unfolding_all rfl) ?_))
       go_roundw
       case rel => exact ⟨i + 1, v', N, dd, z', by go_num, by omega, rfl, HZ2, hv'le, hN258, HM2, HNM, HK1'.out _, HK2'.out _, hbl2.out _, hG2⟩
       case measure => simp [intOf]; omega
      ·rw [if_neg hu] at hup
       rw [hup] at hG2
       have hu' : (3 ≤ N ∧ ¬ t1 < N) ∨ ¬ 3 ≤ N := by omega
       have HBD : Hid (∀ q, Below w.heap.size w (wr.drewN q)) := fun q => below_drewN hbl.out q
       clear hup hu hM2
       rcases hu' with ⟨u1, u2⟩ | u1
       ·have u1' : (3 : Int) ≤ (N : Int) := by omega
        have u2' : ¬ (t1 : Int) < (N : Int) := by omega
        clear u1 u2
        go_wp2
        go_quiet (fail)
        go_wp2
        go_quiet ((go_at_call 107; first | exact quiet_add (HSA.out _) | exact quiet_one (HSA.out _)))
        go_wp2
        go_roundw
        case rel => exact ⟨i + 1, v', t1, t2, z', by go_num, by omega, rfl, HZ2, hv'le, ht258, hM, htm, hk1, hk2, HBD.out _, hG2⟩
        case measure => simp [intOf]; omega
       ·have u1' : ¬ (3 : Int) ≤ (N : Int) := by omega
        clear u1
        go_wp2
        go_quiet (fail)
        go_wp2
        go_quiet ((go_at_call 107; first | exact quiet_add (HSA.out _) | exact quiet_one (HSA.out _)))
        go_wp2
        go_roundw
        case rel => exact ⟨i + 1, v', t1, t2, z', by go_num, by omega, rfl, HZ2, hv'le, ht258, hM, htm, hk1, hk2, HBD.out _, hG2⟩
        case measure => simp [intOf]; omega
     ·rw [decide_eq_false hE2] at hne
      have hup : lgStep l a pl (t1, t2) = (t1, t2) := by
       unfold lgStep
       rw [if_neg (by show ¬ gt l (pl + t1) = gt l (a + t1); rw [HIa.out.1, HIa.out.2]; exact hE2)]
      rw [hup] at hG2
      have HBD : Hid (∀ q, Below w.heap.size w (wr.drewN q)) := fun q => below_drewN hbl.out q
      clear hup hM2 hE2
      go_wp2
      go_quiet (fail)
      go_wp2
      go_roundw
      case rel => exact ⟨i + 1, v', t1, t2, z', by go_num, by omega, rfl, HZ2, hv'le, ht258, hM, htm, hk1, hk2, HBD.out _, hG2⟩
      case measure => simp [intOf]; omega
   ·have hlti : ¬ (i : Int) < (L : Int) := by omega
    have hR : Hid (lgF l lev s = (t1, t2)) := by
     unfold Hid
     rw [← hG.out, show L - i = 0 by omega, lgGo]
    have tld := load_tk hk2.out rfl
    have tst := store_tk hk1.out rfl (t1 : Int) (t2 : Int)
    obtain ⟨⟨z0, z1, z2⟩, _⟩ := Blk.three (hk1.out.setRow #[.int .u8 0, .int .i64 (t1 : Int), .int .i64 (t2 : Int)])
    have HBL := Lib.hid (below_setRowT hbl.out (Nat.le_refl _) #[.int .u8 0, .int .i64 (t1 : Int), .int .i64 (t2 : Int)])
    go_wp2_with (first
     | (with_reducible refine wpList_ldT tld (by with_unfolding_all rfl) ?_)
     | (with_reducible refine wpList_stT tst (by with_unfolding_all rfl) (by with_unfolding_all rfl) ?_))
    refine bodyPost_ret (v := .agg #[.int .u8 0, .int .i64 (t1 : Int), .int .i64 (t2 : Int)]) (by simp [results, Tryz.results55, go_sem, z0, z1, z2]) rfl ?_
    rw [hR.out]
    exact ⟨rfl, HBL.out⟩
end
end Go.Proofs.YtldgdofefcehnaaGreatDoor
