/-
  LAW 06's EXAMPLE: 'alive' returns true. No conditions but that the table lies as the program's text lays it.
-/
import Derived.Test.YtbgdoemealddpaaDoorCrc7
import Derived.Deep.RegionHeld3
import Derived.ArgAppend
import Derived.Lib.SlBytesConst
namespace Go.Proofs.YtbgdoemealddpaaDoor
open Go.RowKit
set_option maxRecDepth 100000
set_option linter.unusedVariables false

def l9 : List F := [ofN 49, ofN 50, ofN 51, ofN 52, ofN 53, ofN 54, ofN 55, ofN 56, ofN 57]
theorem l9_sum : sum32 l9 = ofG 3421780262 := by decide +kernel
theorem nOf_nat {n : Nat} (h : n ≤ 1099511627776) : nOf n = n := by unfold nOf; omega
theorem own_shape6 {w : World} {base n : Nat} {e : TypeId} {v : Value} {xs : List Value} (h : w.ownsRow base e 1 v n xs) : ∃ A c, v = .slice A n c := by
  rcases h.2 with ⟨rfl, rfl⟩ | ⟨g, cap, _, rfl, _⟩
  · exact ⟨none, 0, rfl⟩
  · exact ⟨_, cap, rfl⟩
section
variable {W0 W : World} {g : Nat}
theorem Upd_split {A : Option Addr} {n c : Nat} {l m : List F} (ht : Tab W) (h : Row W A n m) : Calls Tryd.prog 48 #[.int .u32 (sum32 l).n, .slice A n c] W fun e w' => e = .returned (.int .u32 (sum32 (l ++ m)).n) ∧ W = w' := by
  have h1 := Update_c (sum32 l) A n c m W ht h
  have e : upd (sum32 l) m = sum32 (l ++ m) := by unfold sum32; rw [upd_append]
  rw [e] at h1
  exact h1
end
theorem row_lit6 (w : World) (l : List F) (n g : Nat) (hn : n = l.length) (hg : g = w.heap.size) (hl : l.length ≤ maxLen) (C : Array Value) (hC : C = (cs l).toArray) (t : TypeId) (fz : Nat × Nat) : Row (w.alloc (.cells C t fz)) (some ⟨g, 0, none⟩) n l := by
  subst hn hg hC
  refine ⟨rfl, hl, fun _ => ⟨w.heap.size, 0, rfl, by simp, fun i hi => ?_⟩⟩
  have h := heap_alloc_new w (.cells (cs l).toArray t fz)
  rw [Nat.zero_add, cell_of_row _ _ i _ t fz h]
  simpa using cs_at hi
theorem own_lit6 (w : World) (l : List F) (C : Array Value) (hC : C = (cs l).toArray) (hl : l.length ≤ maxLen) (t : TypeId) : (w.alloc (.cells C t)).ownsRow w.heap.size t 1 (.slice (some ⟨w.heap.size, 0, none⟩) l.length l.length) l.length (cs l) := by
  subst hC
  refine ⟨by simp [cs_length], .inr ⟨w.heap.size, l.length, _, rfl, Nat.le_refl _, heap_alloc_new w _, Nat.le_refl _, hl, by simp [cs_length], ?_⟩⟩
  rw [Nat.mul_one, List.take_of_length_le (by simp [cs_length])]
theorem two_cells6 (w : World) (u v : Value) (t : TypeId) : ∀ j x, [u, v][j]? = some x → (w.alloc (.cells #[u, v] t)).cell? ((⟨w.heap.size, 0, none⟩ : Addr).add j) = some x := by
  intro j x hx
  have h := heap_alloc_new w (.cells #[u, v] t)
  have e : (⟨w.heap.size, 0, none⟩ : Addr).add j = ⟨w.heap.size, j, none⟩ := by unfold Addr.add; split <;> simp_all
  rw [e, cell_of_row _ _ j _ t (0, 0) h]
  simpa using hx
theorem row_cells6 {w : World} {b off n : Nat} {l : List F} (h : Row w (some ⟨b, off, none⟩) n l) : ∀ j u, (cs l)[j]? = some u → w.cell? ((⟨b, off, none⟩ : Addr).add j) = some u := by
  intro j u hu
  have hj : j < n := by
    have := (List.getElem?_eq_some_iff.1 hu).1
    rw [cs_length, h.len] at this
    exact this
  obtain ⟨b', o', e, hb, hc⟩ := h.2.2 (by omega)
  injection e with e
  injection e with e1 e2
  subst e1 e2
  have e : (⟨b, off, none⟩ : Addr).add j = ⟨b, off + j, none⟩ := by unfold Addr.add; split <;> simp_all
  rw [e, hc j hj, ← hu, cs_at (by rw [h.len]; exact hj)]
theorem step_append_new {P : Program} {w : World} {ops : Array Oper} {o : Oper} {a : Act} {K : Act → World → Prop} {Q : Exit → Act → World → Prop} {E : Prop} (hw : Region.wanted o (yielded ops a.tmps) = true) (s x : Operand) (t : TypeId)
    (ho : o.op = .call { callee := .builtin .append, args := #[s, x], argTypes := #[t, t] })
    (e : TypeId) (i : TypeInfo) (z : Value) (size bytes : Nat) (ht : P.underlying t = some (.slice e)) (hi : P.info? e = some i) (hz : i.zero = some z)
    (hsize : i.size = size) (hby : i.bytes = bytes) (hzs : z.cells.size = size) (hsz : 0 < size)
    (b : Addr) (n cap : Nat) (olds : List Value) (hs : a.eval s = .slice (some b) n cap) (hlo : olds.length = n * size) (holds : ∀ j u, olds[j]? = some u → w.cell? (b.add j) = some u)
    (ad : Addr) (m c : Nat) (news : List Value) (hx : a.eval x = .slice (some ad) m c) (hl : news.length = m * size) (hnews : ∀ j u, news[j]? = some u → w.cell? (ad.add j) = some u)
    (hg : cap < n + m) (h63 : n + m ≤ maxLen) (hbytes : (n + m) * bytes ≤ 140737488355328)
    (h : ∀ v w', w'.ownsRow w.heap.size e size v (n + m) (olds ++ news) → w.grownBy w' none → K (a.put o.dst v) w') :
    if Region.wanted o (yielded ops a.tmps) = true then Oper.wp P o a w K Q else E := by
  rw [if_pos hw]
  obtain ⟨v, w', hr, h2, h3⟩ := run_append_arg_grows (P := P) w t o.type e i z size bytes ht hi hz hsize hby hzs hsz b n cap olds hlo holds ad m c news hl hnews hg h63 hbytes
  unfold Oper.wp execOp
  simp only [ho, resolve, invoke, builtin, Sem.run_bind, Sem.run_pure, Result.andThen_ok, List.map_toArray, List.map_cons, List.map_nil, hs, hx, hr]
  exact h v w' h2 h3
end Go.Proofs.YtbgdoemealddpaaDoor
