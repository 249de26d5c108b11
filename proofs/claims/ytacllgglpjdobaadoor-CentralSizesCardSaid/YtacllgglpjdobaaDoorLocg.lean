/-
  LOCAL HEADERS: a string's bytes appended; rows of numbers that were just laid; what stands while a header is laid. No conditions.
-/
import Derived.Test.YtacllgglpjdobaaDoorLocf
import Derived.Lib.AppendStr
namespace Go.Proofs.YtacllgglpjdobaaDoor
open Go.RowKit
set_option maxRecDepth 100000
set_option linter.unusedVariables false

theorem strCells_S (l : List UInt8) : Lib.strCells (S l) = cs (nmF l) := by
  unfold Lib.strCells S cs nmF
  rfl
/-- a string's bytes appended: the row, in its own block or in a new one -/
theorem run_append_str (i : TypeInfo) (hi : Tryd.prog.info? 5 = some i) (hz : i.zero = some (.int .u8 0)) (hsize : i.size = 1) (hby : i.bytes = 1) (w : World) (base : Nat)
    (v : Value) (n : Nat) (xs : List Value) (hown : w.ownsRow base 5 1 v n xs) (l : List UInt8) (hm : n + l.length ≤ 1000000000) (hbase : base ≤ w.heap.size) (ty : TypeId) :
    ∃ v' w', (Builtin.append_ #[31, 9] ty #[v, .string (S l)]).run Tryd.prog w = .ok v' w' ∧ Laid w base v (n + l.length) (xs ++ cs (nmF l)) w' v' := by
  have hs := S_size l
  obtain ⟨v', w', hr, h1, h2, h3⟩ := Lib.run_append_own_string (P := Tryd.prog) w base 31 9 ty 5 i Tryd.underlying31 Tryd.underlying9 hi hz hsize hby v n xs hown (S l) (by unfold maxLen; omega) (by omega) hbase
  rw [hs, strCells_S] at h1
  obtain ⟨A, c, rfl, hc⟩ := own_shape h1
  refine ⟨_, w', hr, A, c, rfl, h1, h2, ?_⟩
  have hxl : xs.length = n := by simpa using hown.1
  rcases hown.2 with ⟨rfl, rfl⟩ | ⟨g, cap, cur, rfl, hbg, hg, hnc, hcm, hcs, htake⟩
  · rcases h1.2 with ⟨e1, e2⟩ | ⟨g, cap, cur, hv, hbg, hg, rest⟩
    · rw [e1]; exact .inl rfl
    · refine .inr fun y hy => ?_
      rw [hv] at hy
      cases hy
      by_cases hgl : g < w.heap.size
      · exfalso
        by_cases hm0 : (S l).size = 0
        · have := h3.2 ⟨rfl, hm0⟩
          rw [this] at hv
          cases hv
        · have hr2 := run_append_nil_string (P := Tryd.prog) w 31 9 ty 5 i (.int .u8 0) Tryd.underlying31 Tryd.underlying9 hi hz (S l) (by omega) (by omega) (by rw [hby]; omega)
          rw [hr] at hr2
          injection hr2 with e3 e4
          rw [hv] at e3
          injection e3 with e5
          injection e5 with e6
          injection e6 with e7
          omega
      · show w.heap.size ≤ g
        omega
  · by_cases hroom : n + (S l).size ≤ cap
    · have hr2 := Lib.run_append_room_string (P := Tryd.prog) w 31 9 ty 5 i Tryd.underlying31 Tryd.underlying9 hi hsize g n cap cur hg (S l) hroom (by omega)
      rw [hr] at hr2
      injection hr2 with e3 e4
      rw [e3]
      exact .inl rfl
    · have holds : ∀ j u, xs[j]? = some u → w.cell? ((⟨g, 0, none⟩ : Addr).add j) = some u := hown.cells (g := g) rfl
      have hr2 := Lib.run_append_grow_string (P := Tryd.prog) w 31 9 ty 5 i (.int .u8 0) Tryd.underlying31 Tryd.underlying9 hi hz ⟨g, 0, none⟩ n cap xs (by rw [hsize]; simpa using hxl) holds (S l) (by omega) (by omega) (by rw [hby]; exact growslice_fits (by omega) (by omega))
      rw [hr] at hr2
      injection hr2 with e3 e4
      rw [e3]
      exact .inr fun y hy => by cases hy; exact Nat.le_refl _
theorem wpList_append_str (i : TypeInfo) (hi : Tryd.prog.info? 5 = some i) (hz : i.zero = some (.int .u8 0)) (hsize : i.size = 1) (hby : i.bytes = 1)
    {w : World} {ops : Array Oper} {rest : List Oper} {o : Oper} {a : Act} {Q : Exit → Act → World → Prop} (hgd : o.guard = none) (s x : Operand)
    (ho : o.op = .call { callee := .builtin .append, args := #[s, x], argTypes := #[31, 9] }) (base : Nat)
    (v : Value) (n : Nat) (xs : List Value) (hs : a.eval s = v) (hown : w.ownsRow base 5 1 v n xs) (l : List UInt8) (hx : a.eval x = .string (S l))
    (hm : n + l.length ≤ 1000000000) (hbase : base ≤ w.heap.size)
    (h : ∀ v' w', Laid w base v (n + l.length) (xs ++ cs (nmF l)) w' v' → wpList Tryd.prog ops Q rest (a.put o.dst v') w') : wpList Tryd.prog ops Q (o :: rest) a w := by
  obtain ⟨v', w', hr, hL⟩ := run_append_str i hi hz hsize hby w base v n xs hown l hm hbase o.type
  exact wpList_plain hgd fun K hK => Lib.wp_append_run w s x _ _ ho _ _ hs hx _ _ hr (hK _ _ (h v' w' hL))
/-- numbers, each with how many bytes it takes, as cells -/
def prL : List (Nat × Nat) → List Value
  | [] => []
  | p :: r => .int .u64 (p.1 : Nat) :: .int .i64 (p.2 : Nat) :: prL r
theorem prL_at : ∀ (P : List (Nat × Nat)) (i : Nat), i < P.length → (prL P)[i * 2]? = some (.int .u64 ((gp P i).1 : Nat)) ∧ (prL P)[i * 2 + 1]? = some (.int .i64 ((gp P i).2 : Nat))
  | [], i, h => absurd h (by simp)
  | p :: r, 0, _ => ⟨rfl, rfl⟩
  | p :: r, i + 1, h => by
    have hi := prL_at r i (by simpa using h)
    rw [show (i + 1) * 2 = i * 2 + 1 + 1 by omega]
    exact ⟨by simpa [prL, gp] using hi.1, by simpa [prL, gp] using hi.2⟩
theorem prow_lit (W : World) (t : TypeId) (C : Array Value) (P : List (Nat × Nat)) (n : Nat) (hC : C = (prL P).toArray) (hn : P.length = n) : PRow (W.alloc (.cells C t)) (some ⟨W.heap.size, 0, none⟩) n P := by
  subst hn hC
  have hk := Blk.new W t (prL P).toArray
  refine ⟨rfl, fun i hi => ⟨W.heap.size, 0, rfl, by simp, ?_, ?_⟩⟩
  · have := hk.cell (0 + i * 2)
    rw [Nat.zero_add] at this ⊢
    rw [this]
    simpa using (prL_at P i hi).1
  · have := hk.cell (0 + i * 2 + 1)
    rw [Nat.zero_add] at this ⊢
    rw [this]
    simpa using (prL_at P i hi).2
theorem Blk.lowB {w w' : World} {g B : Nat} {t : TypeId} {C : Array Value} (h : Blk w g t C) (hg : g < B) (hb : Below B w w') : Blk w' g t C := (hb.block g hg).trans h
/-- while a header is laid: its box, the bytes in theirs -/
structure LaySt (w W : World) (T : TypeId) (H : Array Value) (q : Nat) (V : Option Addr) (N c : Nat) (Y : List F) : Prop where
  box : Blk W w.heap.size T H
  bx : BxO W q (w.heap.size + 1) V N c Y
  bel : Below w.heap.size w W
theorem LaySt.below {w W W' : World} {T : TypeId} {H : Array Value} {q : Nat} {V : Option Addr} {N c : Nat} {Y : List F} (h : LaySt w W T H q V N c Y) (hb : Below W.heap.size W W') : LaySt w W' T H q V N c Y :=
  ⟨h.box.below h.box.lt hb, h.bx.below hb, h.bel.trans (hb.mono h.bel.size)⟩
theorem LaySt.own_lo {w W : World} {T : TypeId} {H : Array Value} {q : Nat} {V : Option Addr} {N c : Nat} {Y : List F} (h : LaySt w W T H q V N c Y) : ∀ g, (Value.slice V N c).ownBlock = some g → w.heap.size + 1 ≤ g := fun g hg => (h.bx.own.lt g hg).1
theorem LaySt.out {w W W' : World} {T : TypeId} {H : Array Value} {q : Nat} {V V' : Option Addr} {N N' c c' : Nat} {Y Y' : List F} (h : LaySt w W T H q V N c Y) (hx : BxO W' q (w.heap.size + 1) V' N' c' Y') {b : Option Nat} (ho : WOut q (Value.slice V N c).ownBlock b W W') : LaySt w W' T H q V' N' c' Y' := by
  have hb : Below (w.heap.size + 1) W W' := ho.below h.bx.lo (by have := h.box.lt; omega) h.own_lo
  exact ⟨h.box.lowB (by omega) hb, hx, h.bel.trans (hb.mono (by omega))⟩
/-- a string's bytes -/
theorem LaySt.str {w W w4 : World} {T : TypeId} {H : Array Value} {q : Nat} {V V4 : Option Addr} {N N4 c c4 : Nat} {Y Y4 : List F} (h : LaySt w W T H q V N c Y) (hown : w4.ownsRow (w.heap.size + 1) 5 1 (.slice V4 N4 c4) N4 (cs Y4)) (hg : W.grownBy w4 (Value.slice V N c).ownBlock) (hnw : (Value.slice V4 N4 c4).ownBlock = (Value.slice V N c).ownBlock ∨ ∀ g, (Value.slice V4 N4 c4).ownBlock = some g → W.heap.size ≤ g) :
    LaySt w (w4.setCell ⟨q, 0, none⟩ (.slice V4 N4 c4)) T H q V4 N4 c4 Y4 := by
  obtain ⟨hx, ho⟩ := h.bx.more (Below.refl _ _) hown hg hnw
  exact h.out hx ho
theorem info_hd : (Tryd.prog.info? 27).map (·.size) = some 11 := by kernel_rfl
theorem ld_hd {w : World} {g : Nat} {C : Array Value} (h : Blk w g 27 C) (hC : C.size = 11) : Sem.run Tryd.prog (loadVar 27 ⟨g, 0, none⟩) w = .ok (.agg C) w :=
  run_loadVar_row w g _ _ _ (0, 0) _ h Tryd.underlying27 rfl (by rw [info_hd, hC])
theorem st_hd {w : World} {g : Nat} {C : Array Value} (h : Blk w g 27 C) (hC : C.size = 11) (D : Array Value) (hD : D.size = 11) (h1 : D.all (·.oneCell') = true) :
    Sem.run Tryd.prog (storeVar 27 ⟨g, 0, none⟩ (.agg D)) w = .ok () (w.setRow g D) :=
  run_storeVar_row w g _ _ _ _ h (by rw [info_hd, hD]) (by rw [hC, hD]) h1
theorem results_cell_tt {fn : Func} {p u v : Tmp} {ty : TypeId} (h : fn.results = #[.cell p ty, .tmp u, .tmp v]) (tmps : Array Value) (P : Program) (w : World) :
    (results fn tmps).run P w =
      ((asAddr (tmps.getD p undef)).run P w).andThen fun a w₁ => ((loadVar ty a).run P w₁).andThen fun x w₂ => .ok (.tuple #[x, tmps.getD u undef, tmps.getD v undef]) w₂ := by
  simp only [results, h]
  simp [Sem.run_bind, Result.andThen]
theorem info_hdR : (Tryd.prog.info? 37).map (·.size) = some 11 := by kernel_rfl
theorem ld_hdR {w : World} {g : Nat} {C : Array Value} (h : Blk w g 37 C) (hC : C.size = 11) : Sem.run Tryd.prog (loadVar 37 ⟨g, 0, none⟩) w = .ok (.agg C) w :=
  run_loadVar_row w g _ _ _ (0, 0) _ h Tryd.underlying37 rfl (by rw [info_hdR, hC])
theorem st_hdR {w : World} {g : Nat} {C : Array Value} (h : Blk w g 37 C) (hC : C.size = 11) (D : Array Value) (hD : D.size = 11) (h1 : D.all (·.oneCell') = true) :
    Sem.run Tryd.prog (storeVar 37 ⟨g, 0, none⟩ (.agg D)) w = .ok () (w.setRow g D) :=
  run_storeVar_row w g _ _ _ _ h (by rw [info_hdR, hD]) (by rw [hC, hD]) h1
end Go.Proofs.YtacllgglpjdobaaDoor
