/-
  A FINDER IS MADE. No conditions.
-/
import Derived.Test.YtkjogejakenmeaaMch2
namespace Go.Proofs.Ytkjogejakenmeaa
open Go.RowKit
set_option maxRecDepth 1000000
set_option linter.unusedVariables false

theorem zF_ex2 : ∃ (i : TypeInfo) (Z : List Value), Try.prog.info? 50 = some i ∧ i.zero = some (.agg Z.toArray) ∧ Z[1]? = some (.int .i64 0) ∧ Z.length = 32772 ∧ chkZ 32768 (Z.drop 3) = true :=
  ⟨Try.t50, (((Try.prog.info? 50).bind (·.zero)).map fun v => v.cells.toList).getD [], by kernel_rfl, by kernel_rfl, by kernel_rfl, by decide +kernel, by decide +kernel⟩
theorem run_build_finder (B G : Option Addr) (n cb m mc lev : Nat) : ∃ C, FinC C (.slice B n cb) lev fs0 (.slice G m mc) ∧ ∀ w, Sem.run Try.prog (Instr.build 50 #[(0, .slice B n cb), (4, .slice G m mc), (2, .int .i64 (lev : Nat))]) w = .ok (.agg C) w := by
  obtain ⟨i, Z, hi, hz, hz1, hl, hc⟩ := zF_ex2
  refine ⟨((Z.toArray.setIfInBounds 0 (.slice B n cb)).setIfInBounds 32771 (.slice G m mc)).setIfInBounds 2 (.int .i64 (lev : Nat)), ⟨by simp [hl], ?_, ?_, ?_, fun c hc' => ?_, ?_⟩, fun w => ?_⟩
  · rw [Array.getElem?_setIfInBounds_ne (by omega), Array.getElem?_setIfInBounds_ne (by omega), Array.getElem?_setIfInBounds_self, if_pos (by simp [hl])]
  · rw [Array.getElem?_setIfInBounds_ne (by omega), Array.getElem?_setIfInBounds_ne (by omega), Array.getElem?_setIfInBounds_ne (by omega)]
    rw [List.getElem?_toArray]
    exact hz1
  · rw [Array.getElem?_setIfInBounds_self, if_pos (by simp [hl])]
  · rw [Array.getElem?_setIfInBounds_ne (by omega), Array.getElem?_setIfInBounds_ne (by omega), Array.getElem?_setIfInBounds_ne (by omega)]
    have := chkZ_at hc hc'
    rw [List.getElem?_drop] at this
    rw [List.getElem?_toArray]
    exact this
  · rw [Array.getElem?_setIfInBounds_ne (by omega), Array.getElem?_setIfInBounds_self, if_pos (by simp [hl])]
  · have hzv : Sem.run Try.prog (zeroValue 50) w = .ok (.agg Z.toArray) w := by
      unfold zeroValue typeInfo
      simp [go_sem, hi, hz]
    unfold Instr.build
    have hne : Z ≠ [] := fun e => by subst e; cases hl
    simp [go_sem, hzv, hl, hne]

/-! ### Rows of tokens -/
def tk3 (t : Tok) : List Value := [.int .u8 t.lit.n, .int .i64 t.len, .int .i64 t.dist]
def tC (T : List Tok) : List Value := T.flatMap tk3
theorem tC_length (T : List Tok) : (tC T).length = T.length * 3 := by
  induction T with
  | nil => rfl
  | cons t r ih => show (tk3 t ++ tC r).length = _; rw [List.length_append, ih]; simp [tk3]; omega
theorem tC_append (a b : List Tok) : tC (a ++ b) = tC a ++ tC b := by unfold tC; rw [List.flatMap_append]
theorem tC_snoc (T : List Tok) (t : Tok) : tC (T ++ [t]) = tC T ++ tk3 t := by rw [tC_append]; unfold tC; simp
theorem info_tk3 : (Try.prog.info? 41).map (fun i => (i.zero, i.size, i.bytes)) = some (some (.agg #[.int .u8 0, .int .i64 0, .int .i64 0]), 3, 24) := by kernel_rfl
theorem info_i32 : (Try.prog.info? 21).map (fun i => (i.zero, i.size, i.bytes)) = some (some (.int .i32 0), 1, 4) := by kernel_rfl
theorem made_l32 (n : Nat) : (madeCells (Value.int .i32 0).cells (n * 1)).toList = l32 (fun _ => 0) n := by
  have e : madeCells (Value.int .i32 0).cells (n * 1) = madeCells #[.int .i32 0] n := by rw [Nat.mul_one]; rfl
  rw [e, toList_madeCells_one]
  refine List.ext_getElem? fun k => ?_
  by_cases hk : k < n
  · rw [l32_at hk]; simp [hk]
  · rw [List.getElem?_eq_none (by simp; omega), List.getElem?_eq_none (by rw [l32_length]; omega)]
theorem run_box_finder {C : Array Value} (w : World) : Sem.run Try.prog (Instr.box 50 (.agg C)) w = .ok (.pointer (some ⟨w.heap.size, 0, none⟩)) (w.alloc (.cells C 50)) := by
  unfold Instr.box
  simp [go_sem, newVar, newRow]
theorem wpList_bld {P : Program} {w : World} {ops : Array Oper} {rest : List Oper} {a : Act} {Q : Exit → Act → World → Prop} {dst : Option Tmp} {T ty : TypeId} {pos : String} {aft : Array Edge} {parts : Array (Nat × Operand)} {vals : Array (Nat × Value)} {v : Value}
    (hrun : Sem.run P (Instr.build T vals) w = .ok v w) (hp : (parts.map fun x => (x.1, a.eval x.2)) = vals) (hK : wpList P ops Q rest (a.put dst v) w) :
    wpList P ops Q ({ dst := dst, op := Op.build T parts, type := ty, pos := pos, after := aft, guard := none } :: rest) a w := by
  refine wpList_plain rfl fun K hK' => ?_
  unfold Oper.wp
  subst hp
  simp [execOp, hrun, Result.andThen]
  exact hK' _ _ hK
theorem wpList_bx {P : Program} {w w' : World} {ops : Array Oper} {rest : List Oper} {a : Act} {Q : Exit → Act → World → Prop} {dst : Option Tmp} {p : Operand} {T ty : TypeId} {pos : String} {aft : Array Edge} {v u : Value}
    (hrun : Sem.run P (Instr.box T u) w = .ok v w') (hp : a.eval p = u) (hK : wpList P ops Q rest (a.put dst v) w') :
    wpList P ops Q ({ dst := dst, op := Op.box T p, type := ty, pos := pos, after := aft, guard := none } :: rest) a w := by
  refine wpList_plain rfl fun K hK' => ?_
  unfold Oper.wp
  simp [execOp, hp, hrun, Result.andThen]
  exact hK' _ _ hK
theorem Fin_.keep {w w' : World} {H p gl : Nat} {B : Option Addr} {n cb : Nat} {l : List F} {lev : Nat} {s : Fs} (h : Fin_ w H p gl B n cb l lev s) {a : Option Nat} (hs : w.heap.size ≤ w'.heap.size) (hk : ∀ k, k < w.heap.size → a ≠ some k → w'.heap[k]? = w.heap[k]?) (hp : a ≠ some p) (hgl : a ≠ some gl) (hH : ∀ g, a = some g → H ≤ g) : Fin_ w' H p gl B n cb l lev s := by
  obtain ⟨C, h1, h2⟩ := h.blk
  have hlt := h.lt
  refine ⟨⟨C, ?_, h2⟩, ?_, ⟨⟨h.row.row.len, h.row.row.2.1, fun hn => ?_⟩, h.row.le, h.row.max⟩, h.lob, h.hH, h.ne, h.few, h.le⟩
  · unfold Blk at h1 ⊢
    rw [hk p hlt hp]; exact h1
  · have hl := h.lks
    have hg2 := (hl.lt gl rfl).2
    refine ⟨hl.1, ?_⟩
    rcases hl.2 with hn | ⟨g', cap, cur, hv, hbg, hg, rest⟩
    · exact .inl hn
    · refine .inr ⟨g', cap, cur, hv, hbg, (hk g' (Array.getElem?_eq_some_iff.1 hg).1 (fun e => ?_)).trans hg, rest⟩
      have : (Value.slice (some ⟨gl, 0, none⟩) n n).ownBlock = some g' := by rw [hv]; rfl
      have := ob_ this
      subst this
      exact hgl e
  · obtain ⟨b, o, e, hl, hc⟩ := h.row.row.2.2 hn
    have hb := h.lob (by omega) b o e
    refine ⟨b, o, e, by omega, fun i hi => ?_⟩
    rw [World.cell?_of_block (a := ⟨b, o + i, none⟩) (hk b hl (fun e2 => by have := hH b e2; omega))]
    exact hc i hi
/-- what a round of finding carries -/
structure FdR (w : World) (p : Nat) (B : Option Addr) (n cb : Nat) (l : List F) (lev : Nat) (wr : World) (A : Option Addr) (N c : Nat) (T : List Tok) (q t1 t2 : Nat) (s : Fs) : Prop where
  fin : Fin_ wr w.heap.size p w.heap.size B n cb l lev s
  ok : FsOk s
  box : Blk wr q 41 #[.int .u8 0, .int .i64 (t1 : Nat), .int .i64 (t2 : Nat)]
  own : wr.ownsRow (p + 1) 41 3 (.slice A N c) N (tC T)
  q1 : p < q
  sep : (Value.slice A N c).ownBlock ≠ some q
  bel : Below w.heap.size w wr
  len : T.length = N
theorem own_keep3 {w w' : World} {base n : Nat} {e : TypeId} {v : Value} {xs : List Value} (h : w.ownsRow base e 3 v n xs) (hk : ∀ g, v.ownBlock = some g → w'.heap[g]? = w.heap[g]?) : w'.ownsRow base e 3 v n xs := by
  refine ⟨h.1, ?_⟩
  rcases h.2 with hn | ⟨g, cap, cur, rfl, hbg, hg, rest⟩
  · exact .inl hn
  · exact .inr ⟨g, cap, cur, rfl, hbg, (hk g rfl).trans hg, rest⟩
namespace FdR
variable {w : World} {p : Nat} {B : Option Addr} {n cb : Nat} {l : List F} {lev : Nat} {wr w' : World} {A A' : Option Addr} {N c N' c' : Nat} {T T' : List Tok} {q q' t1 t2 u1 u2 : Nat} {s s' : Fs}
theorem below (h : FdR w p B n cb l lev wr A N c T q t1 t2 s) (hb : Below wr.heap.size wr w') : FdR w p B n cb l lev w' A N c T q t1 t2 s :=
  ⟨h.fin.below hb, h.ok, h.box.below h.box.lt hb, own_keep3 h.own fun g hg => hb.block g (h.own.lt g hg).2, h.q1, h.sep, h.bel.trans (hb.mono h.bel.size), h.len⟩
theorem passed (h : FdR w p B n cb l lev wr A N c T q t1 t2 s) (ho : FOut p w.heap.size wr w') (hf : Fin_ w' w.heap.size p w.heap.size B n cb l lev s') (hok : FsOk s') : FdR w p B n cb l lev w' A N c T q t1 t2 s' := by
  have hp := h.fin.hH.1
  refine ⟨hf, hok, ?_, own_keep3 h.own fun g hg => ?_, h.q1, h.sep, h.bel.trans (ho.below hp (Nat.le_refl _) h.bel.size), h.len⟩
  · have hb := h.box
    have hl := hb.lt
    have := h.q1
    unfold Blk at hb ⊢
    rw [ho.block q hl (by omega) (by omega)]; exact hb
  · have := h.own.lt g hg
    exact ho.block g this.2 (by omega) (by omega)
/-- the box is another one -/
theorem newBox (h : FdR w p B n cb l lev wr A N c T q t1 t2 s) (hb : Blk wr q' 41 #[.int .u8 0, .int .i64 (u1 : Nat), .int .i64 (u2 : Nat)]) (hq : p < q') (hs : (Value.slice A N c).ownBlock ≠ some q') : FdR w p B n cb l lev wr A N c T q' u1 u2 s :=
  ⟨h.fin, h.ok, hb, h.own, hq, hs, h.bel, h.len⟩
theorem setBox (h : FdR w p B n cb l lev wr A N c T q t1 t2 s) : FdR w p B n cb l lev (wr.setRow q #[.int .u8 0, .int .i64 (u1 : Nat), .int .i64 (u2 : Nat)]) A N c T q u1 u2 s := by
  have hp := h.fin.hH.1
  have hq := h.q1
  have hlt := h.box.lt
  have hk : ∀ k, k < wr.heap.size → k ≠ q → (wr.setRow q #[.int .u8 0, .int .i64 (u1 : Nat), .int .i64 (u2 : Nat)]).heap[k]? = wr.heap[k]? := fun k _ hk => blk_setRowT hk _
  exact ⟨h.fin.keep (a := some q) (by simp [World.setRow]) (fun k hk1 hk2 => hk k hk1 (fun e => hk2 (by rw [e]))) (fun e => by injection e with e; omega) (fun e => by injection e with e; omega) (fun g e => by injection e with e; omega), h.ok, h.box.setRow _, own_keep3 h.own fun g hg => blk_setRowT (fun e => h.sep (by rw [← e]; exact hg)) _, h.q1, h.sep, below_setRowT h.bel (by omega) _, h.len⟩
/-- the row has grown -/
theorem grown (h : FdR w p B n cb l lev wr A N c T q t1 t2 s) {o : Obj} {g : Nat} {t : Tok} (hown : w'.ownsRow (p + 1) 41 3 (.slice (some ⟨g, 0, none⟩) (N + 1) c') (N + 1) (tC T ++ tk3 t))
    (hg : (wr.alloc o).grownBy w' (Value.slice A N c).ownBlock) (hat : (Value.slice A N c).ownBlock = some g ∨ g = (wr.alloc o).heap.size) : FdR w p B n cb l lev w' (some ⟨g, 0, none⟩) (N + 1) c' (T ++ [t]) q t1 t2 s := by
  have hp := h.fin.hH.1
  have hq := h.q1
  have hlt := h.box.lt
  have hgp := (hown.lt g rfl).1
  have hs : wr.heap.size ≤ w'.heap.size := by have := hg.size; rw [World.size_alloc] at this; omega
  have hk : ∀ k, k < wr.heap.size → (Value.slice A N c).ownBlock ≠ some k → w'.heap[k]? = wr.heap[k]? := fun k hk hne => by
    rw [hg.block k (by rw [World.size_alloc]; omega) hne.symm]
    exact Below.heap_alloc _ _ _ hk
  have hgg : g ≠ q := by
    rcases hat with e | e
    · intro e2; subst e2; exact h.sep e
    · intro e2
      have e3 : g = wr.heap.size + 1 := by simpa using e
      omega
  refine ⟨h.fin.keep hs hk (fun e => by have := (h.own.lt p e).1; omega) (fun e => by have := (h.own.lt _ e).1; omega) (fun x e => by have := (h.own.lt x e).1; omega), h.ok, ?_, by rw [tC_snoc]; exact hown, hq, fun e => hgg (ob_ e), ⟨hg.os.trans h.bel.os, hg.tape.trans h.bel.tape, hg.output.trans h.bel.output, Nat.le_trans h.bel.size hs, fun k hk1 => (hk k (Nat.lt_of_lt_of_le hk1 h.bel.size) (fun e => by have := (h.own.lt k e).1; omega)).trans (h.bel.block k hk1)⟩, by rw [List.length_append, List.length_singleton, h.len]⟩
  have hb := h.box
  unfold Blk at hb ⊢
  rw [hk q hlt h.sep]; exact hb
end FdR
end Go.Proofs.Ytkjogejakenmeaa
