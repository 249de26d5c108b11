/-
  LAW 22: a row of bytes that begins with a constant's bytes and is appended to; places' cells. No conditions.
-/
import Derived.Test.YtkijagodedmipaaLaw22
import Derived.ArgAppend
namespace Go.Proofs.Ytkijagodedmipaa
open Go.RowKit
set_option maxRecDepth 100000
set_option linter.unusedVariables false

structure AllR (w : World) (base g n c : Nat) (l : List F) : Prop where
  row : Row w (some ⟨g, 0, none⟩) n l
  ge : base ≤ g
  lt : g < w.heap.size
  kind : (n = c ∧ c ≤ 4) ∨ w.ownsRow base 5 1 (.slice (some ⟨g, 0, none⟩) n c) n (cs l)
namespace AllR
variable {w w' : World} {base g n c : Nat} {l : List F}
theorem blocks (h : AllR w base g n c l) (hs : w.heap.size ≤ w'.heap.size) (hb : w'.heap[g]? = w.heap[g]?) : AllR w' base g n c l :=
  ⟨h.row.blk hs fun b o e _ => by injection e with e; injection e with e _ _; subst e; exact hb, h.ge, by have := h.lt; omega, h.kind.imp id fun ho => own_block ho fun k hk => by
    injection hk with hk
    subst hk
    exact hb⟩
theorem below (h : AllR w base g n c l) (hb : Below w.heap.size w w') : AllR w' base g n c l := h.blocks hb.size (hb.block g h.lt)
theorem keepF (h : AllR w base g n c l) {Fq : Nat → Prop} (hk : KeepF Fq w w') (hF : ¬ Fq g) : AllR w' base g n c l := h.blocks hk.size (hk.block g h.lt hF)
end AllR
theorem wp_append_all (i : TypeInfo) (hi : Try.prog.info? 5 = some i) (hz : i.zero = some (.int .u8 0)) (hsize : i.size = 1) (hby : i.bytes = 1)
    {w : World} {o : Oper} {a : Act} {K : Act → World → Prop} {Q : Exit → Act → World → Prop} (s x : Operand)
    (ho : o.op = .call { callee := .builtin .append, args := #[s, x], argTypes := #[33, 33] }) (base g n c : Nat) (l : List F) (h : AllR w base g n c l)
    (hs : a.eval s = .slice (some ⟨g, 0, none⟩) n c) (B : Option Addr) (m cb : Nat) (b : List F) (hx : a.eval x = .slice B m cb) (hb : Row w B m b) (hm : n + m ≤ 1000000000) (hbase : base ≤ w.heap.size)
    (hK : ∀ g' c' w', AllR w' base g' (n + m) c' (l ++ b) → KeepF (fun k => k = g) w w' → (g' = g ∨ w.heap.size ≤ g') → K (a.put o.dst (.slice (some ⟨g', 0, none⟩) (n + m) c')) w') : o.wp Try.prog a w K Q := by
  have hlen := h.row.len
  have hnc : n ≤ c := by
    rcases h.kind with ⟨e, _⟩ | ho
    · omega
    · exact (own_cap ho).1
  rcases Nat.eq_zero_or_pos m with rfl | h0
  · obtain rfl : b = [] := List.eq_nil_of_length_eq_zero hb.len
    have hr := run_append_nothing (P := Try.prog) w 33 33 o.type 5 i Try.underlying33 hi (some ⟨g, 0, none⟩) n c hnc (.slice B 0 cb) (by rw [hsize]; exact nothing_src _ _ _ Try.underlying33 B cb w)
    refine Lib.wp_append_run w s x _ _ ho _ _ hs hx _ _ hr (hK g c w ?_ (KeepF.refl _ _) (.inl rfl))
    simpa using h
  · obtain ⟨b1, o1, rfl, _, _⟩ := hb.at_ (k := 0) h0
    have hnews : ∀ j u, (cs b)[j]? = some u → w.cell? ((⟨b1, o1, none⟩ : Addr).add j) = some u := hb.cells
    have hl9 : (cs b).length = m * 1 := by rw [cs_length, hb.len, Nat.mul_one]
    rcases h.kind with ⟨e, he⟩ | hown
    · subst e
      obtain ⟨v', w', hr, h2, h3⟩ := run_append_arg_grows (P := Try.prog) w 33 o.type 5 i (.int .u8 0) 1 1 Try.underlying33 hi hz hsize hby rfl (by decide) ⟨g, 0, none⟩ n n (cs l) (by rw [cs_length, hlen, Nat.mul_one]) h.row.cells ⟨b1, o1, none⟩ m cb (cs b) hl9 hnews (by omega) (by unfold maxLen; omega) (by omega)
      obtain ⟨g', cap, rfl, hg, hlt⟩ := h2.form (by omega)
      rw [← cs_append] at h2
      refine Lib.wp_append_run w s x _ _ ho _ _ hs hx _ _ hr (hK g' cap w' ⟨Row.of_own h2, by omega, hlt, .inr (own_base h2 hbase)⟩ ⟨h3.os, h3.tape, h3.output, h3.size, fun k hk _ => h3.block k hk (fun e => by cases e)⟩ (.inr hg))
    · refine wp_append_lies w s x _ ho base 5 i (.int .u8 0) 1 1 Try.underlying33 hi hz hsize hby rfl (by decide) _ n (cs l) hs hown ⟨b1, o1, none⟩ m cb (cs b) hx hl9 hnews (cs_one b) h0 (by unfold maxLen; omega) (by omega) hbase _ rfl ?_
      intro g' cap w' h2 h3 h4 h5
      rw [← cs_append] at h2
      refine hK g' cap w' ⟨Row.of_own h2, (h2.lt g' rfl).1, h5, .inr h2⟩ ⟨h3.os, h3.tape, h3.output, h3.size, fun k hk hn => h3.block k hk (fun e => hn (by injection e))⟩ ?_
      rcases h4 with h4 | h4
      · injection h4 with h4; exact .inl h4.symm
      · exact .inr (by omega)
theorem wpList_append_all (i : TypeInfo) (hi : Try.prog.info? 5 = some i) (hz : i.zero = some (.int .u8 0)) (hsize : i.size = 1) (hby : i.bytes = 1)
    {w : World} {ops : Array Oper} {rest : List Oper} {o : Oper} {a : Act} {Q : Exit → Act → World → Prop} (hgd : o.guard = none) (s x : Operand)
    (ho : o.op = .call { callee := .builtin .append, args := #[s, x], argTypes := #[33, 33] }) (base g n c : Nat) (l : List F) (h : AllR w base g n c l)
    (hs : a.eval s = .slice (some ⟨g, 0, none⟩) n c) (B : Option Addr) (m cb : Nat) (b : List F) (hx : a.eval x = .slice B m cb) (hb : Row w B m b) (hm : n + m ≤ 1000000000) (hbase : base ≤ w.heap.size)
    (hK : ∀ g' c' w', AllR w' base g' (n + m) c' (l ++ b) → KeepF (fun k => k = g) w w' → (g' = g ∨ w.heap.size ≤ g') → wpList Try.prog ops Q rest (a.put o.dst (.slice (some ⟨g', 0, none⟩) (n + m) c')) w') : wpList Try.prog ops Q (o :: rest) a w :=
  wpList_plain hgd fun _ hK' => wp_append_all i hi hz hsize hby s x ho base g n c l h hs B m cb b hx hb hm hbase fun g' c' w' h1 h2 h3 => hK' _ _ (hK g' c' w' h1 h2 h3)
/-- places' cells -/
def pcs (D O : Nat → Nat) : Nat → List Value
  | 0 => []
  | k + 1 => pcs D O k ++ [.int .i64 (D k : Nat), .int .i64 (O k : Nat)]
theorem pcs_length (D O : Nat → Nat) : ∀ n, (pcs D O n).length = n * 2
  | 0 => rfl
  | k + 1 => by
    show (pcs D O k ++ _).length = _
    rw [List.length_append, pcs_length D O k]
    simp
    omega
theorem pcs_at {D O : Nat → Nat} : ∀ n r, r < n → (pcs D O n)[r * 2]? = some (.int .i64 (D r : Nat)) ∧ (pcs D O n)[r * 2 + 1]? = some (.int .i64 (O r : Nat))
  | 0, _, h => absurd h (by omega)
  | k + 1, r, h => by
    have hl := pcs_length D O k
    show (pcs D O k ++ [.int .i64 (D k : Nat), .int .i64 (O k : Nat)])[r * 2]? = _ ∧ (pcs D O k ++ [.int .i64 (D k : Nat), .int .i64 (O k : Nat)])[r * 2 + 1]? = _
    by_cases e : r = k
    · subst e
      rw [List.getElem?_append_right (by omega), List.getElem?_append_right (by omega), hl, Nat.sub_self, show r * 2 + 1 - r * 2 = 1 by omega]
      exact ⟨rfl, rfl⟩
    · obtain ⟨h1, h2⟩ := pcs_at k r (by omega)
      rw [List.getElem?_append_left (by omega), List.getElem?_append_left (by omega)]
      exact ⟨h1, h2⟩
theorem pcs_congr {D O D' O' : Nat → Nat} : ∀ n, (∀ r, r < n → D r = D' r ∧ O r = O' r) → pcs D O n = pcs D' O' n
  | 0, _ => rfl
  | k + 1, h => by
    show pcs D O k ++ _ = pcs D' O' k ++ _
    rw [pcs_congr k fun r hr => h r (by omega), (h k (by omega)).1, (h k (by omega)).2]
theorem pcs_snoc (D O : Nat → Nat) (n d o : Nat) : pcs D O n ++ [.int .i64 (d : Nat), .int .i64 (o : Nat)] = pcs (upd D n d) (upd O n o) (n + 1) := by
  show _ = pcs (upd D n d) (upd O n o) n ++ _
  rw [upd_at, upd_at, pcs_congr n fun r hr => ⟨(upd_ne D d (by omega : r ≠ n)).symm, (upd_ne O o (by omega : r ≠ n)).symm⟩]
/-- the cells of an element of two that is to be appended -/
theorem two_cellsP (w : World) (a b : Value) (t : TypeId) : ∀ j u, [a, b][j]? = some u → (w.alloc (.cells #[a, b] t)).cell? ((⟨w.heap.size, 0, none⟩ : Addr).add j) = some u := by
  intro j u hu
  have hj : j < 2 := by
    have := (List.getElem?_eq_some_iff.1 hu).1
    simpa using this
  have e : (⟨w.heap.size, 0, none⟩ : Addr).add j = ⟨w.heap.size, j, none⟩ := by unfold Addr.add; split <;> simp_all
  rw [e, cell_of_row _ _ j _ t (0, 0) (heap_alloc_new w _)]
  simpa using hu
end Go.Proofs.Ytkijagodedmipaa
