/-
  ROWS OF TOKENS AS CELLS; append of one onto another. No conditions.
-/
import Derived.Test.YtldgdofefcehnaaGreatDoorMtr
namespace Go.Proofs.YtldgdofefcehnaaGreatDoor
open Go.RowKit
set_option maxRecDepth 1000000
set_option linter.unusedVariables false
def tk3 (t : Tok) : List Value := [.int .u8 t.lit.n, .int .i64 t.len, .int .i64 t.dist]
def tC (T : List Tok) : List Value := T.flatMap tk3
theorem tC_length (T : List Tok) : (tC T).length = T.length * 3 := by
 induction T with
 | nil => rfl
 | cons t r ih => show (tk3 t ++ tC r).length = _; rw [List.length_append, ih]; simp [tk3]; omega
theorem tC_append (a b : List Tok) : tC (a ++ b) = tC a ++ tC b := by unfold tC; rw [List.flatMap_append]
theorem tC_snoc (T : List Tok) (t : Tok) : tC (T ++ [t]) = tC T ++ tk3 t := by rw [tC_append]; unfold tC; simp
theorem info_tk3 : (Tryz.prog.info? 53).map (fun i => (i.zero, i.size, i.bytes)) = some (some (.agg #[.int .u8 0, .int .i64 0, .int .i64 0]), 3, 24) := by kernel_rfl
theorem tk3_one (t : Tok) : ∀ u ∈ tk3 t, u.oneCell' = true := by
 intro u hu
 simp only [tk3, List.mem_cons, List.not_mem_nil, or_false] at hu
 rcases hu with rfl | rfl | rfl <;> rfl
theorem own_base3 {w : World} {base base' n : Nat} {e : TypeId} {v : Value} {xs : List Value} (h : w.ownsRow base e 3 v n xs) (hb : base' ≤ base) : w.ownsRow base' e 3 v n xs := by
 refine ⟨h.1, ?_⟩
 rcases h.2 with hn | ⟨g, cap, cur, hv, hbg, rest⟩
 ·exact .inl hn
 ·exact .inr ⟨g, cap, cur, hv, Nat.le_trans hb hbg, rest⟩
theorem tC_at {T : List Tok} {i : Nat} (h : i < T.length) : (tC T)[i * 3]? = some (.int .u8 (tg T i).lit.n) ∧ (tC T)[i * 3 + 1]? = some (.int .i64 (tg T i).len) ∧ (tC T)[i * 3 + 2]? = some (.int .i64 (tg T i).dist) := by
 induction T generalizing i with
 | nil => simp at h
 | cons t r ih =>
  have e : tC (t :: r) = tk3 t ++ tC r := rfl
  cases i with
  | zero => rw [e]; exact ⟨rfl, rfl, rfl⟩
  | succ i =>
   have := ih (i := i) (by simpa using h)
   rw [e, tg_cons]
   have e3 : (tk3 t).length = 3 := rfl
   refine ⟨?_, ?_, ?_⟩
   ·rw [List.getElem?_append_right (by rw [e3]; omega), e3, show (i + 1) * 3 - 3 = i * 3 by omega]; exact this.1
   ·rw [List.getElem?_append_right (by rw [e3]; omega), e3, show (i + 1) * 3 + 1 - 3 = i * 3 + 1 by omega]; exact this.2.1
   ·rw [List.getElem?_append_right (by rw [e3]; omega), e3, show (i + 1) * 3 + 2 - 3 = i * 3 + 2 by omega]; exact this.2.2
theorem TRow.ofOwn {w : World} {base n c : Nat} {e : TypeId} {A : Option Addr} {T : List Tok} (h : w.ownsRow base e 3 (.slice A n c) n (tC T)) (hT : T.length = n) (hm : n ≤ maxLen) (hwf : ∀ i, i < n → TokWf (tg T i)) : TRow w A n T := by
 refine ⟨hT, hm, fun hn => ?_, hwf⟩
 rcases h.2 with ⟨_, h0⟩ | ⟨g, cap, cur, hv, _, hg, _, _, hs, ht⟩
 ·omega
 ·injection hv with h1 _ _
  refine ⟨g, 0, h1, (Array.getElem?_eq_some_iff.1 hg).1, fun i hi => ?_⟩
  obtain ⟨q0, q1, q2⟩ := tC_at (T := T) (i := i) (by omega)
  have key : ∀ j, j < n * 3 → w.cell? ⟨g, j, none⟩ = (tC T)[j]? := fun j hj => by
   rw [cell_of_row w g j cur e (0, 0) hg, ← ht, List.getElem?_take, if_pos hj, Array.getElem?_toList]
  rw [Nat.zero_add]
  exact ⟨(key _ (by omega)).trans q0, (key _ (by omega)).trans q1, (key _ (by omega)).trans q2⟩
theorem tC_one (T : List Tok) : ∀ u ∈ tC T, u.oneCell' = true := by
 intro u hu
 unfold tC at hu
 obtain ⟨t, _, h⟩ := List.mem_flatMap.1 hu
 exact tk3_one t u h
theorem TRow.news {w : World} {b off n : Nat} {T : List Tok} (h : TRow w (some ⟨b, off, none⟩) n T) (hn : 0 < n) : ∀ j u, (tC T)[j]? = some u → w.cell? ((⟨b, off, none⟩ : Addr).add j) = some u := by
 intro j u hu
 obtain ⟨b', o', e, _, hc⟩ := h.top hn
 injection e with e
 injection e with e1 e2 _
 subst e1 e2
 have hj : j < (tC T).length := (List.getElem?_eq_some_iff.1 hu).1
 rw [tC_length, h.len] at hj
 obtain ⟨i, r, hir, hr⟩ : ∃ i r, j = i * 3 + r ∧ r < 3 := ⟨j / 3, j % 3, by omega, by omega⟩
 have hi : i < n := by omega
 obtain ⟨q0, q1, q2⟩ := tC_at (T := T) (i := i) (by rw [h.len]; exact hi)
 obtain ⟨c0, c1, c2⟩ := hc i hi
 have ha : (⟨b, off, none⟩ : Addr).add j = ⟨b, off + j, none⟩ := by simp [Addr.add]
 rw [ha]
 have h3 : r = 0 ∨ r = 1 ∨ r = 2 := by omega
 subst hir
 rcases h3 with rfl | rfl | rfl
 ·rw [Nat.add_zero] at hu ⊢
  rw [q0] at hu
  rw [c0, hu]
 ·rw [q1] at hu
  rw [← Nat.add_assoc, c1, hu]
 ·rw [q2] at hu
  rw [← Nat.add_assoc, c2, hu]
def LaidT (w : World) (base : Nat) (v : Value) (n : Nat) (xs : List Value) (w' : World) (v' : Value) : Prop :=
 ∃ A c, v' = .slice A n c ∧ w'.ownsRow base 53 3 v' n xs ∧ w.grownBy w' v.ownBlock ∧ (v'.ownBlock = v.ownBlock ∨ ∀ g, v'.ownBlock = some g → w.heap.size ≤ g)
theorem own3_shape {w : World} {base n : Nat} {e : TypeId} {v : Value} {xs : List Value} (h : w.ownsRow base e 3 v n xs) : ∃ A c, v = .slice A n c ∧ (n ≤ c ∧ c ≤ maxLen) := by
 rcases h.2 with ⟨hv, h0⟩ | ⟨g, cap, cur, hv, _, _, h1, h2, _⟩
 ·subst h0
  exact ⟨none, 0, hv, Nat.le_refl _, by unfold maxLen; omega⟩
 ·exact ⟨_, cap, hv, h1, h2⟩
theorem own_len3 {w : World} {base n : Nat} {e : TypeId} {v : Value} {T : List Tok} (h : w.ownsRow base e 3 v n (tC T)) : T.length = n := by
 have := h.1
 rw [tC_length] at this
 omega
theorem wp_append_toks (i : TypeInfo) (hi : Tryz.prog.info? 53 = some i) (hz : i.zero = some (.agg #[.int .u8 0, .int .i64 0, .int .i64 0])) (hsize : i.size = 3) (hby : i.bytes = 24)
  {w : World} {o : Oper} {a : Act} {K : Act → World → Prop} {Q : Exit → Act → World → Prop} (s x : Operand)
  (ho : o.op = .call { callee := .builtin .append, args := #[s, x], argTypes := #[41, 41] }) (base : Nat)
  (v : Value) (n : Nat) (T : List Tok) (hs : a.eval s = v) (hown : w.ownsRow base 53 3 v n (tC T))
  (B : Option Addr) (m cb : Nat) (U : List Tok) (hx : a.eval x = .slice B m cb) (hl : TRow w B m U) (hm : n + m ≤ 1000000) (hbase : base ≤ w.heap.size)
  (h : ∀ v' w', LaidT w base v (n + m) (tC (T ++ U)) w' v' → K (a.put o.dst v') w') : o.wp Tryz.prog a w K Q := by
 rcases Nat.eq_zero_or_pos m with rfl | h0
 ·obtain rfl : U = [] := List.eq_nil_of_length_eq_zero hl.len
  obtain ⟨A, c, rfl, hc⟩ := own3_shape hown
  have hr := run_append_nothing (P := Tryz.prog) w 41 41 o.type 53 i Tryz.underlying41 hi A n c hc.1 (.slice B 0 cb) (by
   rw [hsize]
   cases B with
   | none => exact ⟨.inl ⟨53, Tryz.underlying41⟩, fun _ => rfl, run_firstCells_none w 3 0 0 cb, run_firstCells_none w.drew 3 0 0 cb, rfl, by simp⟩
   | some a => exact Src.ofSlice w Tryz.underlying41 a 0 cb [] rfl (by simp) (by simp))
  refine Lib.wp_append_run w s x _ _ ho _ _ hs hx _ _ hr (h _ w ⟨A, c, rfl, ?_, ⟨rfl, rfl, rfl, Nat.le_refl _, fun _ _ _ => rfl⟩, .inl rfl⟩)
  simpa using hown
 ·obtain ⟨b, off, hB, _, _⟩ := hl.top h0
  subst hB
  refine wp_append_lies w s x _ ho base 53 i (.agg #[.int .u8 0, .int .i64 0, .int .i64 0]) 3 24 Tryz.underlying41 hi hz hsize hby rfl (by decide) v n (tC T) hs hown ⟨b, off, none⟩ m cb (tC U) hx (by rw [tC_length, hl.len]) (hl.news h0) (tC_one U) h0 (by unfold maxLen; omega) (by omega) hbase _ rfl ?_
  intro g cap w' h2 h3 h4 _
  rw [← tC_append] at h2
  refine h _ w' ⟨_, cap, rfl, h2, h3, ?_⟩
  rcases h4 with h4 | h4
  ·exact .inl h4.symm
  ·exact .inr fun y hy => by cases hy; show _ ≤ g; omega
theorem wpList_append_toks (i : TypeInfo) (hi : Tryz.prog.info? 53 = some i) (hz : i.zero = some (.agg #[.int .u8 0, .int .i64 0, .int .i64 0])) (hsize : i.size = 3) (hby : i.bytes = 24)
  {w : World} {ops : Array Oper} {rest : List Oper} {o : Oper} {a : Act} {Q : Exit → Act → World → Prop} (hgd : o.guard = none) (s x : Operand)
  (ho : o.op = .call { callee := .builtin .append, args := #[s, x], argTypes := #[41, 41] }) (base : Nat)
  (v : Value) (n : Nat) (T : List Tok) (hs : a.eval s = v) (hown : w.ownsRow base 53 3 v n (tC T))
  (B : Option Addr) (m cb : Nat) (U : List Tok) (hx : a.eval x = .slice B m cb) (hl : TRow w B m U) (hm : n + m ≤ 1000000) (hbase : base ≤ w.heap.size)
  (h : ∀ v' w', LaidT w base v (n + m) (tC (T ++ U)) w' v' → wpList Tryz.prog ops Q rest (a.put o.dst v') w') : wpList Tryz.prog ops Q (o :: rest) a w :=
 wpList_plain hgd fun _ hK => wp_append_toks i hi hz hsize hby s x ho base v n T hs hown B m cb U hx hl hm hbase fun v' w' hq => hK _ _ (h v' w' hq)
end Go.Proofs.YtldgdofefcehnaaGreatDoor
