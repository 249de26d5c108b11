/-
  A FINDER IS MADE. No conditions.
  THE CONTRACT OF match's Find. No conditions.
  ROWS OF TOKENS IN MEMORY; the contracts of size, Bytes (both), the document's Same. No conditions.
-/
import Derived.Test.YtldgdofefcehnaaGreatDoorMch2
import Derived.Test.YtldgdofefcehnaaGreatDoorMtc
import Derived.Deep.RegionLaw
import Derived.Test.YtldgdofefcehnaaGreatDoorMtr
namespace Go.Proofs.YtldgdofefcehnaaGreatDoor
section
open Go.RowKit
set_option maxRecDepth 1000000
set_option linter.unusedVariables false
theorem zF_ex2 : ∃ (i : TypeInfo) (Z : List Value), Tryz.prog.info? 97 = some i ∧ i.zero = some (.agg Z.toArray) ∧ Z[1]? = some (.int .i64 0) ∧ Z.length = 32772 ∧ chkZ 32768 (Z.drop 3) = true :=
 ⟨Tryz.t97, (((Tryz.prog.info? 97).bind (·.zero)).map fun v => v.cells.toList).getD [], by kernel_rfl, by kernel_rfl, by kernel_rfl, by decide +kernel, by decide +kernel⟩
theorem run_build_finder (B G : Option Addr) (n cb m mc lev : Nat) : ∃ C, FinC C (.slice B n cb) lev fs0 (.slice G m mc) ∧ ∀ w, Sem.run Tryz.prog (Instr.build 97 #[(0, .slice B n cb), (4, .slice G m mc), (2, .int .i64 (lev : Nat))]) w = .ok (.agg C) w := by
 obtain ⟨i, Z, hi, hz, hz1, hl, hc⟩ := zF_ex2
 refine ⟨((Z.toArray.setIfInBounds 0 (.slice B n cb)).setIfInBounds 32771 (.slice G m mc)).setIfInBounds 2 (.int .i64 (lev : Nat)), ⟨by simp [hl], ?_, ?_, ?_, fun c hc' => ?_, ?_⟩, fun w => ?_⟩
 ·rw [Array.getElem?_setIfInBounds_ne (by omega), Array.getElem?_setIfInBounds_ne (by omega), Array.getElem?_setIfInBounds_self, if_pos (by simp [hl])]
 ·rw [Array.getElem?_setIfInBounds_ne (by omega), Array.getElem?_setIfInBounds_ne (by omega), Array.getElem?_setIfInBounds_ne (by omega)]
  rw [List.getElem?_toArray]
  exact hz1
 ·rw [Array.getElem?_setIfInBounds_self, if_pos (by simp [hl])]
 ·rw [Array.getElem?_setIfInBounds_ne (by omega), Array.getElem?_setIfInBounds_ne (by omega), Array.getElem?_setIfInBounds_ne (by omega)]
  have := chkZ_at hc hc'
  rw [List.getElem?_drop] at this
  rw [List.getElem?_toArray]
  exact this
 ·rw [Array.getElem?_setIfInBounds_ne (by omega), Array.getElem?_setIfInBounds_self, if_pos (by simp [hl])]
 ·have hzv : Sem.run Tryz.prog (zeroValue 97) w = .ok (.agg Z.toArray) w := by
   unfold zeroValue typeInfo
   simp [go_sem, hi, hz]
  unfold Instr.build
  have hne : Z ≠ [] := fun e => by subst e; cases hl
  simp [go_sem, hzv, hl, hne]
theorem info_i32 : (Tryz.prog.info? 21).map (fun i => (i.zero, i.size, i.bytes)) = some (some (.int .i32 0), 1, 4) := by kernel_rfl
theorem made_l32 (n : Nat) : (madeCells (Value.int .i32 0).cells (n * 1)).toList = l32 (fun _ => 0) n := by
 have e : madeCells (Value.int .i32 0).cells (n * 1) = madeCells #[.int .i32 0] n := by rw [Nat.mul_one]; rfl
 rw [e, toList_madeCells_one]
 refine List.ext_getElem? fun k => ?_
 by_cases hk : k < n
 ·rw [l32_at hk]; simp [hk]
 ·rw [List.getElem?_eq_none (by simp; omega), List.getElem?_eq_none (by rw [l32_length]; omega)]
theorem run_box_finder {C : Array Value} (w : World) : Sem.run Tryz.prog (Instr.box 97 (.agg C)) w = .ok (.pointer (some ⟨w.heap.size, 0, none⟩)) (w.alloc (.cells C 97)) := by
 unfold Instr.box
 simp [go_sem, newVar, newRow]
theorem wpList_bld {P : Program} {w : World} {ops : Array Oper} {rest : List Oper} {a : Act} {Q : Exit → Act → World → Prop} {dst : Option Tmp} {T ty : TypeId} {pos : String} {aft : Array Edge} {parts : Array (Nat × Operand)} {vals : Array (Nat × Value)} {v : Value}
  (hrun : Sem.run P (Instr.build T vals) w = .ok v w) (hp : (parts.map fun x => (x.1, a.eval x.2)) = vals) (hK : wpList P ops Q rest (a.put dst v) w) :
  wpList P ops Q ({ dst := dst, op := Op.build T parts, type := ty, pos := pos, after := aft, guard := none } :: rest) a w := by
 refine wpList_plain rfl fun K hK' => ?_
 unfold Oper.wp
 subst hp
 simp [execOp, hrun, Result.andThen]
 exact hK' _ _ hK
theorem wpList_bx {P : Program} {w w' : World} {ops : Array Oper} {rest : List Oper} {a : Act} {Q : Exit → Act → World → Prop} {dst : Option Tmp} {p : Operand} {T ty : TypeId} {pos : String} {aft : Array Edge} {v u : Value}
  (hrun : Sem.run P (Instr.box T u) w = .ok v w') (hp : a.eval p = u) (hK : wpList P ops Q rest (a.put dst v) w') :
  wpList P ops Q ({ dst := dst, op := Op.box T p, type := ty, pos := pos, after := aft, guard := none } :: rest) a w := by
 refine wpList_plain rfl fun K hK' => ?_
 unfold Oper.wp
 simp [execOp, hp, hrun, Result.andThen]
 exact hK' _ _ hK
theorem Fin_.keep {w w' : World} {H p gl : Nat} {B : Option Addr} {n cb : Nat} {l : List F} {lev : Nat} {s : Fs} (h : Fin_ w H p gl B n cb l lev s) {a : Option Nat} (hs : w.heap.size ≤ w'.heap.size) (hk : ∀ k, k < w.heap.size → a ≠ some k → w'.heap[k]? = w.heap[k]?) (hp : a ≠ some p) (hgl : a ≠ some gl) (hH : ∀ g, a = some g → H ≤ g) : Fin_ w' H p gl B n cb l lev s := by
 obtain ⟨C, h1, h2⟩ := h.blk
 have hlt := h.lt
 refine ⟨⟨C, ?_, h2⟩, ?_, ⟨⟨h.row.row.len, h.row.row.2.1, fun hn => ?_⟩, h.row.le, h.row.max⟩, h.lob, h.hH, h.ne, h.few, h.le⟩
 ·unfold Blk at h1 ⊢
  rw [hk p hlt hp]; exact h1
 ·have hl := h.lks
  have hg2 := (hl.lt gl rfl).2
  refine ⟨hl.1, ?_⟩
  rcases hl.2 with hn | ⟨g', cap, cur, hv, hbg, hg, rest⟩
  ·exact .inl hn
  ·refine .inr ⟨g', cap, cur, hv, hbg, (hk g' (Array.getElem?_eq_some_iff.1 hg).1 (fun e => ?_)).trans hg, rest⟩
   have : (Value.slice (some ⟨gl, 0, none⟩) n n).ownBlock = some g' := by rw [hv]; rfl
   have := ob_ this
   subst this
   exact hgl e
 ·obtain ⟨b, o, e, hl, hc⟩ := h.row.row.2.2 hn
  have hb := h.lob (by omega) b o e
  refine ⟨b, o, e, by omega, fun i hi => ?_⟩
  rw [World.cell?_of_block (a := ⟨b, o + i, none⟩) (hk b hl (fun e2 => by have := hH b e2; omega))]
  exact hc i hi
structure FdR (w : World) (p : Nat) (B : Option Addr) (n cb : Nat) (l : List F) (lev : Nat) (wr : World) (A : Option Addr) (N c : Nat) (T : List Tok) (q t1 t2 : Nat) (s : Fs) : Prop where
 fin : Fin_ wr w.heap.size p w.heap.size B n cb l lev s
 ok : FsOk s
 box : Blk wr q 53 #[.int .u8 0, .int .i64 (t1 : Nat), .int .i64 (t2 : Nat)]
 own : wr.ownsRow (p + 1) 53 3 (.slice A N c) N (tC T)
 q1 : p < q
 sep : (Value.slice A N c).ownBlock ≠ some q
 bel : Below w.heap.size w wr
 len : T.length = N
theorem own_keep3 {w w' : World} {base n : Nat} {e : TypeId} {v : Value} {xs : List Value} (h : w.ownsRow base e 3 v n xs) (hk : ∀ g, v.ownBlock = some g → w'.heap[g]? = w.heap[g]?) : w'.ownsRow base e 3 v n xs := by
 refine ⟨h.1, ?_⟩
 rcases h.2 with hn | ⟨g, cap, cur, rfl, hbg, hg, rest⟩
 ·exact .inl hn
 ·exact .inr ⟨g, cap, cur, rfl, hbg, (hk g rfl).trans hg, rest⟩
namespace FdR
variable {w : World} {p : Nat} {B : Option Addr} {n cb : Nat} {l : List F} {lev : Nat} {wr w' : World} {A A' : Option Addr} {N c N' c' : Nat} {T T' : List Tok} {q q' t1 t2 u1 u2 : Nat} {s s' : Fs}
theorem below (h : FdR w p B n cb l lev wr A N c T q t1 t2 s) (hb : Below wr.heap.size wr w') : FdR w p B n cb l lev w' A N c T q t1 t2 s :=
 ⟨h.fin.below hb, h.ok, h.box.below h.box.lt hb, own_keep3 h.own fun g hg => hb.block g (h.own.lt g hg).2, h.q1, h.sep, h.bel.trans (hb.mono h.bel.size), h.len⟩
theorem passed (h : FdR w p B n cb l lev wr A N c T q t1 t2 s) (ho : FOut p w.heap.size wr w') (hf : Fin_ w' w.heap.size p w.heap.size B n cb l lev s') (hok : FsOk s') : FdR w p B n cb l lev w' A N c T q t1 t2 s' := by
 have hp := h.fin.hH.1
 refine ⟨hf, hok, ?_, own_keep3 h.own fun g hg => ?_, h.q1, h.sep, h.bel.trans (ho.below hp (Nat.le_refl _) h.bel.size), h.len⟩
 ·have hb := h.box
  have hl := hb.lt
  have := h.q1
  unfold Blk at hb ⊢
  rw [ho.block q hl (by omega) (by omega)]; exact hb
 ·have := h.own.lt g hg
  exact ho.block g this.2 (by omega) (by omega)
theorem newBox (h : FdR w p B n cb l lev wr A N c T q t1 t2 s) (hb : Blk wr q' 53 #[.int .u8 0, .int .i64 (u1 : Nat), .int .i64 (u2 : Nat)]) (hq : p < q') (hs : (Value.slice A N c).ownBlock ≠ some q') : FdR w p B n cb l lev wr A N c T q' u1 u2 s :=
 ⟨h.fin, h.ok, hb, h.own, hq, hs, h.bel, h.len⟩
theorem setBox (h : FdR w p B n cb l lev wr A N c T q t1 t2 s) : FdR w p B n cb l lev (wr.setRow q #[.int .u8 0, .int .i64 (u1 : Nat), .int .i64 (u2 : Nat)]) A N c T q u1 u2 s := by
 have hp := h.fin.hH.1
 have hq := h.q1
 have hlt := h.box.lt
 have hk : ∀ k, k < wr.heap.size → k ≠ q → (wr.setRow q #[.int .u8 0, .int .i64 (u1 : Nat), .int .i64 (u2 : Nat)]).heap[k]? = wr.heap[k]? := fun k _ hk => blk_setRowT hk _
 exact ⟨h.fin.keep (a := some q) (by simp [World.setRow]) (fun k hk1 hk2 => hk k hk1 (fun e => hk2 (by rw [e]))) (fun e => by injection e with e; omega) (fun e => by injection e with e; omega) (fun g e => by injection e with e; omega), h.ok, h.box.setRow _, own_keep3 h.own fun g hg => blk_setRowT (fun e => h.sep (by rw [← e]; exact hg)) _, h.q1, h.sep, below_setRowT h.bel (by omega) _, h.len⟩
theorem grown (h : FdR w p B n cb l lev wr A N c T q t1 t2 s) {o : Obj} {g : Nat} {t : Tok} (hown : w'.ownsRow (p + 1) 53 3 (.slice (some ⟨g, 0, none⟩) (N + 1) c') (N + 1) (tC T ++ tk3 t))
  (hg : (wr.alloc o).grownBy w' (Value.slice A N c).ownBlock) (hat : (Value.slice A N c).ownBlock = some g ∨ g = (wr.alloc o).heap.size) : FdR w p B n cb l lev w' (some ⟨g, 0, none⟩) (N + 1) c' (T ++ [t]) q t1 t2 s := by
 have hp := h.fin.hH.1
 have hq := h.q1
 have hlt := h.box.lt
 have hgp := (hown.lt g rfl).1
 have hs : wr.heap.size ≤ w'.heap.size := by have := hg.size; rw [World.size_alloc] at this; omega
 have hk : ∀ k, k < wr.heap.size → (Value.slice A N c).ownBlock ≠ some k → w'.heap[k]? = wr.heap[k]? := fun k hk hne => by
  rw [hg.block k (by rw [World.size_alloc]; omega) hne.symm]
  exact Below.heap_alloc _ _ _ hk
 have hgg : g ≠ q := by
  rcases hat with e | e
  ·intro e2; subst e2; exact h.sep e
  ·intro e2
   have e3 : g = wr.heap.size + 1 := by simpa using e
   omega
 refine ⟨h.fin.keep hs hk (fun e => by have := (h.own.lt p e).1; omega) (fun e => by have := (h.own.lt _ e).1; omega) (fun x e => by have := (h.own.lt x e).1; omega), h.ok, ?_, by rw [tC_snoc]; exact hown, hq, fun e => hgg (ob_ e), ⟨hg.os.trans h.bel.os, hg.tape.trans h.bel.tape, hg.output.trans h.bel.output, Nat.le_trans h.bel.size hs, fun k hk1 => (hk k (Nat.lt_of_lt_of_le hk1 h.bel.size) (fun e => by have := (h.own.lt k e).1; omega)).trans (h.bel.block k hk1)⟩, by rw [List.length_append, List.length_singleton, h.len]⟩
 have hb := h.box
 unfold Blk at hb ⊢
 rw [hk q hlt h.sep]; exact hb
end FdR
end
section
open Go.RowKit
set_option maxRecDepth 1000000
set_option linter.unusedVariables false
theorem cells3 (w : World) (x y z : Value) (t : TypeId) : ∀ j u, [x, y, z][j]? = some u → (w.alloc (.cells #[x, y, z] t)).cell? ((⟨w.heap.size, 0, none⟩ : Addr).add j) = some u := by
 intro j u h
 have hb := Blk.new w t #[x, y, z]
 have : j < 3 := by
  have := (List.getElem?_eq_some_iff.1 h).1
  simpa using this
 rw [show (⟨w.heap.size, 0, none⟩ : Addr).add j = ⟨w.heap.size, j, none⟩ by simp [Addr.add]; omega, hb.cell j]
 rw [List.getElem?_toArray]; exact h
theorem setCell_blkT {w : World} {g : Nat} {t : TypeId} {C : Array Value} (h : Blk w g t C) (i : Nat) (v : Value) : w.setCell ⟨g, i, none⟩ v = w.setRow g (C.setIfInBounds i v) := by
 unfold World.setCell World.setRow
 congr 1
 refine Array.ext_getElem? fun k => ?_
 rw [Array.getElem?_modify, Array.getElem?_modify]
 by_cases e : g = k
 ·subst e
  have h2 : w.heap[g]? = some (.cells C t (0, 0)) := h
  simp [h2]
 ·simp [e]
theorem setRow_setRowT {w : World} {g : Nat} {t : TypeId} {C : Array Value} (h : Blk w g t C) (D E : Array Value) : (w.setRow g D).setRow g E = w.setRow g E := by
 unfold World.setRow
 congr 1
 refine Array.ext_getElem? fun k => ?_
 rw [Array.getElem?_modify, Array.getElem?_modify, Array.getElem?_modify]
 by_cases e : g = k
 ·subst e
  have h2 : w.heap[g]? = some (.cells C t (0, 0)) := h
  simp [h2]
 ·simp [e]
theorem set_three {w : World} {g : Nat} {t : TypeId} {x0 x1 x2 : Value} (h : Blk w g t #[x0, x1, x2]) (a b c : Value) :
  ((w.setCell ⟨g, 0, none⟩ a).setCell ⟨g, 1, none⟩ b).setCell ⟨g, 2, none⟩ c = w.setRow g #[a, b, c] := by
 rw [setCell_blkT h, setCell_blkT (h.setRow _), setRow_setRowT h, setCell_blkT (h.setRow _), setRow_setRowT h]
 rfl
set_option maxHeartbeats 2000000 in
theorem Find_c (B : Option Addr) (n cb : Nat) (l : List F) (w : World) (hr : RowIn w B n cb l) (hn : n ≤ 100000) (level : Int) (lev : Nat) (hlev : min (max level 0) 9 = (lev : Int)) :
  Calls Tryz.prog 24 #[.slice B n cb, .int .i64 level] w fun e w' => ∃ A c N, e = .returned (.slice A N c) ∧ N = (fdF l lev).length ∧ w'.ownsRow w.heap.size 53 3 (.slice A N c) N (tC (fdF l lev)) ∧ Below w.heap.size w w' := by
 obtain ⟨i0, hi, hz0, hz1, hz2⟩ := info_parts info_i32
 obtain ⟨i3, hi3, hy0, hy1, hy2⟩ := info_parts info_tk3
 obtain ⟨mx, hmx⟩ : ∃ mx : Int, mx = max level 0 := ⟨_, rfl⟩
 have hmx1 : max level 0 = mx := hmx.symm
 rw [hmx1] at hlev
 obtain ⟨C, hC, hrun⟩ := run_build_finder B (some ⟨w.heap.size, 0, none⟩) n cb n n lev
 have hl9 : lev ≤ 9 := by omega
 have HR := Lib.hid hr
 have HC := Lib.hid hC
 clear hr hmx hC
 go_enter Tryz.func24, Tryz.ntmps24
 go_wp2_with (first
  | (at_make; refine wpList_make_full _ rfl _ _ 94 rfl w.heap.size 21 i0 (.int .i32 0) 1 Tryz.underlying94 hi hz0 hz1 _ _ _ _ n rfl rfl rfl rfl (by rw [hz2]; omega) (by unfold maxLen; omega) (Nat.le_refl _) ?_; intro w1 hown1 hgrow1)
  | (with_reducible refine wpList_bld (hrun _) (by with_unfolding_all rfl) ?_)
  | (with_reducible refine wpList_bx (run_box_finder _) (by with_unfolding_all rfl) ?_))
 rw [made_l32] at hown1
 have hbw1 : Below w.heap.size w w1 := (Below.refl _ w).grown hgrow1 (Nat.le_refl _) (fun k hk => by cases hk)
 have hgl := (hown1.lt w.heap.size rfl).2
 have hF0 : Fin_ (w1.alloc (.cells C 97)) w.heap.size w1.heap.size w.heap.size B n cb l lev fs0 :=
  ⟨⟨C, Blk.new w1 _ _, HC.out⟩, hown1.alloc _, (HR.out.below hbw1).below ((Below.refl _ w1).alloc (Nat.le_refl _) _), fun h0 b o e => by
   obtain ⟨b', o', e', hl, _⟩ := HR.out.row.2.2 (by omega)
   rw [e'] at e; injection e with e; injection e with e1 _ _
   omega, ⟨by omega, Nat.le_refl _⟩, by omega, ⟨hn, hl9⟩, Nat.zero_le _⟩
 have HBW := Lib.hid (hbw1.alloc hbw1.size (.cells C 97))
 have hpw : w.heap.size < w1.heap.size := hgl
 have HF0 := Lib.hid hF0
 clear hown1 hgrow1 hbw1 hgl hF0 hrun
 generalize hp : w1.heap.size = p at *
 generalize w1.alloc (.cells C 97) = W0 at *
 clear hp
 refine (longest_c HF0.out fs0_ok).mono ?_
 rintro e w2 ⟨rfl, hb2⟩
 obtain ⟨t, ht⟩ : ∃ t, t = lgF l lev fs0 := ⟨_, rfl⟩
 rw [← ht]
 obtain ⟨t1, t2⟩ := t
 unfold tkA
 dsimp only
 have hR0 : FdR w p B n cb l lev (w2.alloc (.cells #[.int .u8 0, .int .i64 (t1 : Nat), .int .i64 (t2 : Nat)] 53)) none 0 0 [] w2.heap.size t1 t2 fs0 :=
  ⟨(HF0.out.below hb2).below ((Below.refl _ w2).alloc (Nat.le_refl _) _), fs0_ok, Blk.new w2 _ _, World.ownsRow_nil _ _ _ _, by have := HF0.out.lt; have := hb2.size; omega, (fun e => by cases e), (HBW.out.trans (hb2.mono HBW.out.size)).alloc (by have := HBW.out.size; have := hb2.size; omega) _, rfl⟩
 have HR0 := Lib.hid hR0
 have HOK0 : Hid (FdOk l fs0 (t1, t2) []) := by unfold Hid; rw [ht]; exact fd0_ok l lev
 have HG0 : Hid (fdGo l lev l.length fs0 (t1, t2) [] = fdF l lev) := by unfold Hid fdF; rw [← ht]
 have HLEN := Lib.hid HR.out.row.len
 clear hR0 hb2 ht
 go_wp2
 generalize w2.alloc (.cells #[.int .u8 0, .int .i64 (t1 : Nat), .int .i64 (t2 : Nat)] 53) = W2 at *
 generalize w2.heap.size = q0 at *
 go_loopg [6, 7] l.length (fun gk tsv tv wr => ∃ (T : List Tok) (A : Option Addr) (N c q u1 u2 : Nat) (s : Fs), tsv = .slice A N c ∧ tv = .pointer (some ⟨q, 0, none⟩) ∧ Hid (FdR w p B n cb l lev wr A N c T q u1 u2 s) ∧ Hid (FdOk l s (u1, u2) T) ∧ Hid (fdGo l lev gk s (u1, u2) T = fdF l lev) ∧ Hid (l.length ≤ s.at_ + gk))
 case atStart => exact ⟨[], none, 0, 0, q0, t1, t2, fs0, rfl, rfl, HR0, HOK0, HG0, by unfold Hid; omega⟩
 case round =>
  obtain ⟨T, A, N, c, q, u1, u2, s, rfl, rfl, hR, hOK, hG, hgk⟩ := hrel
  obtain ⟨c0, c1, _, _, _⟩ := hR.out.fin.cells
  by_cases hlt : s.at_ < n
  ·have hln := HLEN.out
   obtain ⟨f, hf⟩ : ∃ f, gk = f + 1 := ⟨gk - 1, by have := hgk.out; omega⟩
   have hfg : Hid (f < gk) := by unfold Hid; omega
   have hgk2 : Hid (l.length ≤ s.at_ + 1 + f) := by unfold Hid; have := hgk.out; omega
   have hst : Hid (fdF l lev = if u1 = 0 ∨ u1 < (lgF l lev (ps1 l s)).1 then fdGo l lev f (ps1 l s) (lgF l lev (ps1 l s)) (T ++ [lone l s.at_])
     else fdGo l lev f (psF l (u1 - 1) (ps1 l s)) (lgF l lev (psF l (u1 - 1) (ps1 l s))) (T ++ [mtch (u1, u2)])) := by
    unfold Hid
    rw [← hG.out, hf, fdGo, if_pos (by omega)]
   obtain ⟨b1, o1, rfl, _, q1⟩ := hR.out.fin.row.row.at_ (k := s.at_) hlt
   obtain ⟨x, hx⟩ : ∃ x, x = gt l s.at_ := ⟨_, rfl⟩
   rw [← hx] at q1
   have HX := Lib.hid hx
   have hRa := hR.out.below ((Below.refl _ wr).alloc (Nat.le_refl _) (.cells #[.int .u8 x.n, .int .i64 0, .int .i64 0] 53))
   have HP := Lib.hid (pass_c hRa.fin hRa.ok 1 (by omega))
   have k8 := Blk.new wr 53 #[.int .u8 x.n, .int .i64 0, .int .i64 0]
   have hqw := hR.out.box.lt
   have hqp := hR.out.q1
   have HRa := Lib.hid hRa
   have hai : ((s.at_ : Nat) : Int) < (n : Int) := by omega
   have hMT := hOK.out.mt.le
   have hu258 : u1 ≤ 258 := hMT.1
   have hal2 : Hid (s.at_ + u1 ≤ n) := by unfold Hid; have := hMT.2; dsimp only at this; omega
   have hN : Hid (N ≤ 100000) := by unfold Hid; have h1 := hOK.out.few; have h2 := hR.out.len; omega
   have hNb := hN.out
   obtain ⟨a, ha⟩ : ∃ a, a = s.at_ := ⟨_, rfl⟩
   rw [← ha] at c1 hai q1
   have HA := Lib.hid ha
   clear hx hRa hf hMT hlt ha hln
   go_wp2_with fail
   refine HP.out.mono ?_
   rintro e w2 ⟨rfl, hF2, hO2⟩
   have hR2 := HRa.out.passed hO2 hF2 (HRa.out.ok.next (l := l))
   have k8b : Blk w2 wr.heap.size 53 #[.int .u8 x.n, .int .i64 0, .int .i64 0] := by
    have hl := k8.lt
    unfold Blk at k8 ⊢
    rw [hO2.block _ hl (by omega) (by omega)]; exact k8
   have HL := Lib.hid (longest_c hR2.fin hR2.ok)
   have HR2 := Lib.hid hR2
   have hsz2 := hO2.size
   rw [World.size_alloc] at hsz2
   generalize hq8 : wr.heap.size = q8 at *
   clear hF2 hO2 hR2 c0 c1 q1 HP HRa k8
   go_wp2_with fail
   refine HL.out.mono ?_
   rintro e w3 ⟨rfl, hb3⟩
   obtain ⟨v, hv⟩ : ∃ v, v = lgF l lev (psF l 1 s) := ⟨_, rfl⟩
   rw [← hv]
   obtain ⟨l1, l2⟩ := v
   have hv' : lgF l lev (ps1 l s) = (l1, l2) := hv.symm
   rw [hv'] at hst
   unfold tkA
   dsimp only at hst ⊢
   have hR3 := (HR2.out.below hb3).below ((Below.refl _ w3).alloc (Nat.le_refl _) (.cells #[.int .u8 0, .int .i64 (l1 : Nat), .int .i64 (l2 : Nat)] 53))
   have k8c := (k8b.below k8b.lt hb3).below (by have := hb3.size; have := k8b.lt; omega) ((Below.refl _ w3).alloc (Nat.le_refl _) (.cells #[.int .u8 0, .int .i64 (l1 : Nat), .int .i64 (l2 : Nat)] 53))
   have k9 := Blk.new w3 53 #[.int .u8 0, .int .i64 (l1 : Nat), .int .i64 (l2 : Nat)]
   obtain ⟨⟨d0, d1, d2⟩, g0, g1, g2⟩ := hR3.box.three
   obtain ⟨⟨e0, e1, e2⟩, _⟩ := k9.three
   obtain ⟨⟨m0, m1, m2⟩, _⟩ := k8c.three
   have HR3 := Lib.hid hR3
   have K8 := Lib.hid k8c
   have K9 := Lib.hid k9
   have hl1 : l1 ≤ 258 := by have := (lgF_ok (l := l) (lev := lev) (HR2.out.ok) (by have := HR2.out.fin.le; have := HLEN.out; omega)).le.1; rw [← hv] at this; exact this
   have hq98 : q8 < w3.heap.size := by have := hb3.size; have := k8b.lt; omega
   have HS9 : Hid ((Value.slice A N c).ownBlock ≠ some w3.heap.size) := fun e => by have := (HR2.out.own.lt _ e).2; have := hb3.size; omega
   have HV := Lib.hid hv'
   clear hR3 k8c k9 hb3 HR2 HL k8b hv hv' hsz2
   generalize hW3 : w3.alloc (.cells #[.int .u8 0, .int .i64 (l1 : Nat), .int .i64 (l2 : Nat)] 53) = W3 at *
   generalize hq9 : w3.heap.size = q9 at *
   by_cases hstop : u1 = 0 ∨ u1 < l1
   ·rw [if_pos hstop] at hst
    go_upto_region 8 with fail
    go_cut [49] (fun s49 wx => s49 = .bool true ∧ W3 = wx)
    case first =>
     by_cases h0 : u1 = 0
     ·have z1 : ((u1 : Int) == 0) = true := by rw [beq_iff_eq]; omega
      clear hstop h0
      go_wp2_with fail
      go_meet
      case rel => exact ⟨rfl, rfl⟩
     ·have z1 : ((u1 : Int) == 0) = false := by rw [beq_eq_false_iff_ne]; omega
      have z2 : (u1 : Int) < (l1 : Int) := by omega
      clear hstop h0
      go_wp2_with fail
      go_meet
      case rel => exact ⟨rfl, rfl⟩
    case rest =>
     obtain ⟨rfl, rfl⟩ := hcut
     go_upto_region 9 with fail
     go_cut [6] (fun s6 wx => ∃ g c', s6 = .slice (some ⟨g, 0, none⟩) (N + 1) c' ∧ Hid (FdR w p (some ⟨b1, o1, none⟩) n cb l lev wx (some ⟨g, 0, none⟩) (N + 1) c' (T ++ [lone l s.at_]) q l1 l2 (psF l 1 s)))
     case first =>
      have hR3d : FdR w p (some ⟨b1, o1, none⟩) n cb l lev (World.drew W3) A N c T q u1 u2 (psF l 1 s) := HR3.out.below (w' := World.drew W3) (below_drewN (Below.refl _ _) 1)
      have HR3d := Lib.hid hR3d
      have y0 : ∀ o, (W3.alloc o).cell? ⟨q9, 0, none⟩ = some (.int .u8 0) := fun o => by rw [World.cell?_alloc_lt _ _ _ K9.out.lt]; exact e0
      have y1 : ∀ o, (W3.alloc o).cell? ⟨q9, 1, none⟩ = some (.int .i64 (l1 : Nat)) := fun o => by rw [World.cell?_alloc_lt _ _ _ K9.out.lt]; exact e1
      have y2 : ∀ o, (W3.alloc o).cell? ⟨q9, 2, none⟩ = some (.int .i64 (l2 : Nat)) := fun o => by rw [World.cell?_alloc_lt _ _ _ K9.out.lt]; exact e2
      clear hR3d hstop
      go_region_law ((refine step_append_lies _ (by rfl) (.tmp 50) (.tmp 52) 41 (by rfl) (p + 1) 53 i3 (.agg #[.int .u8 0, .int .i64 0, .int .i64 0]) 3 24 Tryz.underlying41 hi3 hy0 hy1 hy2 rfl (by decide) (.slice A N c) N (tC T) (by rfl) ((HR3.out.own.alloc _).drew) ⟨W3.heap.size, 0, none⟩ 1 1 (tk3 ⟨x, 0, 0⟩) (by rfl) rfl (cells3 W3 _ _ _ _) (tk3_one _) (by decide) (by unfold maxLen; omega) (by omega) (by have := HR3.out.own.lt; have := K9.out.lt; simp; omega) (W3.heap.size + 1) (by simp) ?_; intro gg cap' w5 hown5 hg5 hat5 hlt5; have hF5 : FdR w p (some ⟨b1, o1, none⟩) n cb l lev w5 (some ⟨gg, 0, none⟩) (N + 1) cap' (T ++ [⟨x, 0, 0⟩]) q u1 u2 (psF l 1 s) := HR3d.out.grown (t := ⟨x, 0, 0⟩) hown5 hg5 (by simpa using hat5); have k9d := Blk.kept ((K9.out.below K9.out.lt ((Below.refl _ W3).alloc (Nat.le_refl _) (.cells #[.int .u8 x.n, .int .i64 0, .int .i64 0] 53))).drew) hg5 ⟨by have := K9.out.lt; simp; omega, HS9.out⟩; obtain ⟨⟨v0, v1, v2⟩, _⟩ := k9d.three; obtain ⟨⟨r0, r1, r2⟩, s0, s1, s2⟩ := hF5.box.three))
      all_goals
       go_wp2_with fail
       go_meet
       case rel =>
        refine ⟨gg, cap', rfl, ?_⟩
        have h9 := hF5.setBox (u1 := l1) (u2 := l2)
        rw [← set_three hF5.box, show (⟨x, 0, 0⟩ : Tok) = lone l s.at_ by unfold lone; rw [← HX.out]] at h9
        exact h9
     case rest =>
      obtain ⟨g, c', rfl, hR6⟩ := hcut
      have tl := load_tk hR6.out.box rfl
      have hE6 := HV.out
      have hR7 := hR6.out.below ((Below.refl _ wc).alloc (Nat.le_refl _) (.cells #[.int .u8 0, .int .i64 (l1 : Nat), .int .i64 (l2 : Nat)] 53))
      have k10 := Blk.new wc 53 #[.int .u8 0, .int .i64 (l1 : Nat), .int .i64 (l2 : Nat)]
      have hR8 := Lib.hid (hR7.newBox k10 (by have := hR6.out.box.lt; have := hR6.out.q1; omega) (fun e => by have := (hR6.out.own.lt _ e).2; omega))
      have hOK2 : Hid (FdOk l (psF l 1 s) (l1, l2) (T ++ [lone l s.at_])) := by
       have := hOK.out.lone (lev := lev) (by have := HLEN.out; have := HA.out; omega)
       rw [hE6] at this
       exact this
      have hgk3 : Hid (l.length ≤ (psF l 1 s).at_ + f) := by unfold Hid; rw [psF_at]; exact hgk2.out
      have hst2 := Lib.hid hst.out.symm
      clear hE6 hR7 k10 hstop
      go_wp2_with (first
       | (with_reducible refine wpList_ldT tl (by with_unfolding_all rfl) ?_))
      go_roundg f
      case measure => exact hfg.out
      case rel => exact ⟨_, _, _, _, _, l1, l2, psF l 1 s, rfl, rfl, hR8, hOK2, hst2, hgk3⟩
   ·rw [if_neg hstop] at hst
    have z1 : ((u1 : Int) == 0) = false := by rw [beq_eq_false_iff_ne]; omega
    have z2 : ¬ (u1 : Int) < (l1 : Int) := by omega
    have hu0 : u1 ≠ 0 := by omega
    obtain ⟨hOK2, hat2⟩ := hOK.out.match_ (lev := lev) hu0
    dsimp only at hOK2 hat2
    obtain ⟨k, hk⟩ : ∃ k, k = u1 - 1 := ⟨_, rfl⟩
    rw [← hk] at hst hOK2 hat2
    have hk1 : (u1 : Int) - 1 = (k : Int) := by omega
    have hkn : (psF l 1 s).at_ + k ≤ n := by rw [psF_at]; have := hal2.out; omega
    have et : tk3 (mtch (u1, u2)) = [.int .u8 0, .int .i64 (u1 : Nat), .int .i64 (u2 : Nat)] := by simp [tk3, mtch, n_zero]
    have HOK2 := Lib.hid hOK2
    have HAT2 := Lib.hid hat2
    have hu1 : 1 ≤ u1 := by omega
    have hgk3 : Hid (l.length ≤ s.at_ + u1 + f) := by unfold Hid; have := hgk2.out; omega
    have HK := Lib.hid hk
    clear hstop hu0 hOK2 hat2 hk m0 m1 m2
    go_wp2_with (first
     | (at_builtin; refine wpList_append_lies _ rfl (.tmp 55) (.tmp 57) 41 rfl (p + 1) 53 i3 (.agg #[.int .u8 0, .int .i64 0, .int .i64 0]) 3 24 Tryz.underlying41 hi3 hy0 hy1 hy2 rfl (by decide) (.slice A N c) N (tC T) rfl (HR3.out.own.alloc _) ⟨W3.heap.size, 0, none⟩ 1 1 [.int .u8 0, .int .i64 (u1 : Nat), .int .i64 (u2 : Nat)] rfl rfl (cells3 W3 _ _ _ _) (by rw [← et]; exact tk3_one _) (by decide) (by unfold maxLen; omega) (by omega) (by have := K9.out.lt; simp; omega) (W3.heap.size + 1) (by simp) ?_; intro gg cap' w5 hown5 hg5 hat5 hlt5
        have hF5 : FdR w p (some ⟨b1, o1, none⟩) n cb l lev w5 (some ⟨gg, 0, none⟩) (N + 1) cap' (T ++ [mtch (u1, u2)]) q u1 u2 (psF l 1 s) := HR3.out.grown (t := mtch (u1, u2)) (by rw [et]; exact hown5) hg5 (by simpa using hat5)
        obtain ⟨⟨r0, r1, r2⟩, s0, s1, s2⟩ := hF5.box.three
        have HPS := Lib.hid (pass_c hF5.fin hF5.ok k hkn)
        have HF5 := Lib.hid hF5
        clear hown5 hg5 hat5 hlt5 hF5))
    refine HPS.out.mono ?_
    rintro e w6 ⟨rfl, hF6, hO6⟩
    have hR6 := HF5.out.passed hO6 hF6 (FsOk.pass k HF5.out.ok)
    have HL6 := Lib.hid (longest_c hR6.fin hR6.ok)
    have HR6 := Lib.hid hR6
    clear hF6 hO6 hR6 r0 r1 r2 s0 s1 s2 HPS HF5
    go_wp2_with fail
    refine HL6.out.mono ?_
    rintro e w7 ⟨rfl, hb7⟩
    obtain ⟨v, hv⟩ : ∃ v, v = lgF l lev (psF l k (psF l 1 s)) := ⟨_, rfl⟩
    rw [← hv]
    obtain ⟨v1, v2⟩ := v
    have hv' : lgF l lev (psF l k (ps1 l s)) = (v1, v2) := hv.symm
    rw [hv'] at hst HOK2
    unfold tkA
    dsimp only at hst HOK2 ⊢
    have hR7 := HR6.out.below hb7
    have hst7 := store_tk hR7.box rfl (v1 : Int) (v2 : Int)
    have hR8 := hR7.setBox (u1 := v1) (u2 := v2)
    have tl := load_tk hR8.box rfl
    have hR9 := hR8.below ((Below.refl _ _).alloc (Nat.le_refl _) (.cells #[.int .u8 0, .int .i64 (v1 : Nat), .int .i64 (v2 : Nat)] 53))
    have k10 := Blk.new (w7.setRow q #[.int .u8 0, .int .i64 (v1 : Nat), .int .i64 (v2 : Nat)]) 53 #[.int .u8 0, .int .i64 (v1 : Nat), .int .i64 (v2 : Nat)]
    have hR10 := Lib.hid (hR9.newBox k10 (by have := hR8.box.lt; have := hR8.q1; omega) (fun e => by have := (hR8.own.lt _ e).2; omega))
    have hgk4 : Hid (l.length ≤ (psF l k (psF l 1 s)).at_ + f) := by
     unfold Hid
     have h9 := HAT2.out
     rw [show (psF l k (psF l 1 s)).at_ = s.at_ + u1 from h9]
     exact hgk3.out
    have hst2 := Lib.hid hst.out.symm
    clear hR7 hR8 hR9 k10 hb7 hv hv' HL6 HR6
    generalize w7.setRow q #[.int .u8 0, .int .i64 (v1 : Nat), .int .i64 (v2 : Nat)] = W8 at *
    go_wp2_with (first
     | (with_reducible refine wpList_ldT tl (by with_unfolding_all rfl) ?_)
     | (with_reducible refine wpList_stT hst7 (by with_unfolding_all rfl) (by with_unfolding_all rfl) ?_))
    go_roundg f
    case measure => exact hfg.out
    case rel => exact ⟨_, _, _, _, _, v1, v2, psF l k (psF l 1 s), rfl, rfl, hR10, HOK2, hst2, hgk4⟩
  ·have hE : Hid (T = fdF l lev) := by
    unfold Hid
    rw [← hG.out]
    cases gk with
    | zero => rfl
    | succ f => unfold fdGo; rw [if_neg (by have := HLEN.out; omega)]
   have hlt2 : ¬ ((s.at_ : Nat) : Int) < (n : Int) := by omega
   generalize s.at_ = a at *
   go_wp2
   go_ret
   have h1 := hR.out.own
   have h2 := hR.out.len
   rw [hE.out] at h1 h2
   exact ⟨A, c, N, rfl, h2.symm, own_base3 h1 (by omega), hR.out.bel⟩
end
section
open Go.RowKit
set_option maxRecDepth 1000000
set_option linter.unusedVariables false
theorem size_c (t : Tok) (ht : TokWf t) (w : World) : Calls Tryz.prog 57 #[tkV t] w fun e w' => e = .returned (.int .i64 (szF t : Nat)) ∧ Below w.heap.size w w' := by
 obtain ⟨x, len, dist⟩ := t
 have hr := wf_i64 ht.1
 unfold tkV
 dsimp only at hr ⊢
 by_cases h0 : len = 0
 ·subst h0
  have hE : Hid (szF ⟨x, 0, dist⟩ = 1) := rfl
  go_enter Tryz.func57, Tryz.ntmps57
  go_wp2
  go_ret
  rw [hE.out]
  exact ⟨rfl, (Below.refl _ _).alloc (Nat.le_refl _) _⟩
 ·have hz : (len == 0) = false := by rw [beq_eq_false_iff_ne]; exact h0
  obtain ⟨mx, hmx⟩ : ∃ mx : Int, mx = max len 0 := ⟨_, rfl⟩
  obtain ⟨z, hz2⟩ : ∃ z : Nat, z = szF ⟨x, len, dist⟩ := ⟨_, rfl⟩
  have hz3 : min mx 258 = (z : Int) := by
   rw [hz2, hmx]; unfold szF; rw [if_neg (by exact h0)]; show min (max len 0) 258 = ((min len.toNat 258 : Nat) : Int); omega
  have hmx1 : max len 0 = mx := hmx.symm
  rw [← hz2]
  clear hmx hz2 h0
  go_enter Tryz.func57, Tryz.ntmps57
  go_wp2
  go_ret
  exact ⟨rfl, (Below.refl _ _).alloc (Nat.le_refl _) _⟩
theorem bysF_take {T : List Tok} {k : Nat} (h : k < T.length) : bysF (T.take (k + 1)) = bysF (T.take k) + szF (tg T k) := by
 rw [take_tg h, bysF_append]; simp [bysF]
theorem bysF_le (T : List Tok) : bysF T ≤ 258 * T.length := by
 induction T with
 | nil => simp [bysF]
 | cons t r ih => have := szF_le t; simp only [bysF, List.length_cons]; omega
set_option maxHeartbeats 1000000 in
theorem MBytes_c (A : Option Addr) (n c : Nat) (T : List Tok) (w : World) (h : TRow w A n T) (hn : n ≤ 100000) : Calls Tryz.prog 25 #[.slice A n c] w fun e w' => e = .returned (.int .i64 (bysF T : Nat)) ∧ Below w.heap.size w w' := by
 have HH := Lib.hid h
 have HLEN := Lib.hid h.len
 clear h
 go_enter Tryz.func25, Tryz.ntmps25
 go_wp2
 go_loopw [3, 8] (fun sv iv wr => ∃ (i z : Nat), iv = .int .i64 i ∧ sv = .int .i64 z ∧ i ≤ n ∧ Hid (z = bysF (T.take i)) ∧ z ≤ 30000000 ∧ Hid (Below w.heap.size w wr)) (fun _ iv _ => n - (intOf iv).toNat)
 case atStart => exact ⟨0, 0, rfl, rfl, by omega, rfl, by omega, Below.refl _ _⟩
 case round =>
  obtain ⟨i, z, rfl, rfl, hi, hz, hz3, hb⟩ := hrel
  by_cases hlt : i < n
  ·have hlt2 : (i : Int) < (n : Int) := by omega
   have h1 := HH.out.below hb.out
   obtain ⟨b, off, rfl, hl, c0, c1, c2⟩ := h1.at_ hlt
   have hwf := HH.out.wf i hlt
   have hst : Hid (bysF (T.take (i + 1)) = z + szF (tg T i)) := by unfold Hid; rw [bysF_take (by rw [HLEN.out]; exact hlt), hz.out]
   have hle : bysF (T.take (i + 1)) ≤ 258 * n := Nat.le_trans (bysF_le _) (by rw [List.length_take, HLEN.out]; omega)
   have HSZ := Lib.hid (fun W => size_c (tg T i) hwf W)
   have hs258 := szF_le (tg T i)
   rw [hst.out] at hle
   obtain ⟨sz, hsz⟩ : ∃ sz, sz = szF (tg T i) := ⟨_, rfl⟩
   rw [← hsz] at HSZ hst hs258 hle
   unfold tkV at HSZ
   generalize (tg T i).lit = x at *
   generalize (tg T i).len = y at *
   generalize (tg T i).dist = d at *
   clear h1 hwf hsz
   go_wp2_with fail
   refine (HSZ.out _).mono ?_
   rintro e w2 ⟨rfl, hb2⟩
   have hb3 := Lib.hid (hb.out.trans (((Below.refl wr.heap.size wr).alloc (Nat.le_refl _) (.cells #[.int .u8 x.n, .int .i64 y, .int .i64 d] 53)).trans (hb2.mono (by simp)) |>.mono hb.out.size))
   clear hb2
   go_wp2
   go_roundw
   case rel => exact ⟨i + 1, z + sz, by go_num, by go_num, by omega, hst.out.symm, by omega, hb3⟩
   case measure => simp [intOf]; omega
  ·have hi2 : i = n := by omega
   have hlt2 : ¬ (i : Int) < (n : Int) := by omega
   have hE : Hid (z = bysF T) := by
    have h1 := hz.out
    rw [hi2, ← HLEN.out, List.take_length] at h1
    exact h1
   clear hi2 hlt
   go_wp2
   go_ret
   rw [hE.out]
   exact ⟨rfl, hb.out⟩
end
end Go.Proofs.YtldgdofefcehnaaGreatDoor
