/-
  append OF A ROW OF BYTES, none too, onto a row that a call owns: where the new row lies. No conditions.
-/
import Derived.Test.YtbphbogolffanaaDoorRowOut
import Derived.Deep.Upon
import Derived.Lib.AppendZeros
namespace Go.Proofs.YtbphbogolffanaaDoor
open Go.RowKit
set_option maxRecDepth 100000
set_option linter.unusedVariables false

theorem nothing_src (P : Program) (t e : TypeId) (hk : P.underlying t = some (.slice e)) (B : Option Addr) (c : Nat) (w : World) : Src P 1 t (.slice B 0 c) 0 [] w := by
  cases B with
  | none => exact ⟨.inl ⟨e, hk⟩, fun _ => rfl, run_firstCells_none w 1 0 0 c, run_firstCells_none w.drew 1 0 0 c, rfl, by simp⟩
  | some a => exact Src.ofSlice w hk a 0 c [] rfl (by simp) (by simp)
/-- what stands behind an append: the row, in its own block or in a new one -/
def Laid (w : World) (base : Nat) (v : Value) (n : Nat) (xs : List Value) (w' : World) (v' : Value) : Prop :=
  ∃ A c, v' = .slice A n c ∧ w'.ownsRow base 5 1 v' n xs ∧ w.grownBy w' v.ownBlock ∧ (v'.ownBlock = v.ownBlock ∨ ∀ g, v'.ownBlock = some g → w.heap.size ≤ g)
theorem wp_append_row (i : TypeInfo) (hi : Tryd.prog.info? 5 = some i) (hz : i.zero = some (.int .u8 0)) (hsize : i.size = 1) (hby : i.bytes = 1)
    {w : World} {o : Oper} {a : Act} {K : Act → World → Prop} {Q : Exit → Act → World → Prop} (s x : Operand)
    (ho : o.op = .call { callee := .builtin .append, args := #[s, x], argTypes := #[22, 22] }) (base : Nat)
    (v : Value) (n : Nat) (xs : List Value) (hs : a.eval s = v) (hown : w.ownsRow base 5 1 v n xs)
    (B : Option Addr) (m cb : Nat) (l : List F) (hx : a.eval x = .slice B m cb) (hl : Row w B m l) (hm : n + m ≤ 1000000000) (hbase : base ≤ w.heap.size)
    (h : ∀ v' w', Laid w base v (n + m) (xs ++ cs l) w' v' → K (a.put o.dst v') w') : o.wp Tryd.prog a w K Q := by
  rcases Nat.eq_zero_or_pos m with rfl | h0
  · obtain rfl : l = [] := List.eq_nil_of_length_eq_zero hl.len
    obtain ⟨A, c, rfl, hc⟩ := own_shape hown
    have hr := run_append_nothing (P := Tryd.prog) w 22 22 o.type 5 i Tryd.underlying22 hi A n c hc.1 (.slice B 0 cb) (by rw [hsize]; exact nothing_src _ _ _ Tryd.underlying22 B cb w)
    refine Lib.wp_append_run w s x _ _ ho _ _ hs hx _ _ hr (h _ w ⟨A, c, rfl, ?_, ⟨rfl, rfl, rfl, Nat.le_refl _, fun _ _ _ => rfl⟩, .inl rfl⟩)
    simpa [cs] using hown
  · obtain ⟨b, off, hB, _, _⟩ := hl.at_ (k := 0) h0
    subst hB
    refine wp_append_lies w s x _ ho base 5 i (.int .u8 0) 1 1 Tryd.underlying22 hi hz hsize hby rfl (by decide) v n xs hs hown ⟨b, off, none⟩ m cb (cs l) hx (by rw [cs_length, hl.len, Nat.mul_one]) hl.cells (cs_one l) h0 (by unfold maxLen; omega) (by omega) hbase _ rfl ?_
    intro g cap w' h2 h3 h4 _
    refine h _ w' ⟨_, cap, rfl, h2, h3, ?_⟩
    rcases h4 with h4 | h4
    · exact .inl h4.symm
    · exact .inr fun y hy => by cases hy; show _ ≤ g; omega
theorem step_append_row (i : TypeInfo) (hi : Tryd.prog.info? 5 = some i) (hz : i.zero = some (.int .u8 0)) (hsize : i.size = 1) (hby : i.bytes = 1)
    {w : World} {ops : Array Oper} {o : Oper} {a : Act} {K : Act → World → Prop} {Q : Exit → Act → World → Prop} {E : Prop} (hgd : o.guard = none) (s x : Operand)
    (ho : o.op = .call { callee := .builtin .append, args := #[s, x], argTypes := #[22, 22] }) (base : Nat)
    (v : Value) (n : Nat) (xs : List Value) (hs : a.eval s = v) (hown : w.ownsRow base 5 1 v n xs)
    (B : Option Addr) (m cb : Nat) (l : List F) (hx : a.eval x = .slice B m cb) (hl : Row w B m l) (hm : n + m ≤ 1000000000) (hbase : base ≤ w.heap.size)
    (h : ∀ v' w', Laid w base v (n + m) (xs ++ cs l) w' v' → K (a.put o.dst v') w') : if Region.wanted o (yielded ops a.tmps) = true then Oper.wp Tryd.prog o a w K Q else E := by
  have hw : Region.wanted o (yielded ops a.tmps) = true := by simp [Region.wanted, hgd]
  rw [if_pos hw]
  exact wp_append_row i hi hz hsize hby s x ho base v n xs hs hown B m cb l hx hl hm hbase h
theorem wpList_append_row (i : TypeInfo) (hi : Tryd.prog.info? 5 = some i) (hz : i.zero = some (.int .u8 0)) (hsize : i.size = 1) (hby : i.bytes = 1)
    {w : World} {ops : Array Oper} {rest : List Oper} {o : Oper} {a : Act} {Q : Exit → Act → World → Prop} (hgd : o.guard = none) (s x : Operand)
    (ho : o.op = .call { callee := .builtin .append, args := #[s, x], argTypes := #[22, 22] }) (base : Nat)
    (v : Value) (n : Nat) (xs : List Value) (hs : a.eval s = v) (hown : w.ownsRow base 5 1 v n xs)
    (B : Option Addr) (m cb : Nat) (l : List F) (hx : a.eval x = .slice B m cb) (hl : Row w B m l) (hm : n + m ≤ 1000000000) (hbase : base ≤ w.heap.size)
    (h : ∀ v' w', Laid w base v (n + m) (xs ++ cs l) w' v' → wpList Tryd.prog ops Q rest (a.put o.dst v') w') : wpList Tryd.prog ops Q (o :: rest) a w :=
  wpList_plain hgd fun _ hK => wp_append_row i hi hz hsize hby s x ho base v n xs hs hown B m cb l hx hl hm hbase fun v' w' hq => hK _ _ (h v' w' hq)
end Go.Proofs.YtbphbogolffanaaDoor
