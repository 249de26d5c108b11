/-
  LOCAL HEADERS: what stands while a header is read; read. No conditions.
-/
import Derived.Test.YtacllgglpjdobaaDoorLocg
namespace Go.Proofs.YtacllgglpjdobaaDoor
open Go.RowKit
set_option maxRecDepth 100000
set_option linter.unusedVariables false

theorem Read_d (A : Option Addr) (n c : Nat) (l : List F) (w : World) (h : Row w A n l) (hn : n ≤ 140737488355328) :
    Calls Tryd.prog 49 #[.slice A n c] w fun e w' => ∃ p A' c', e = .returned (.pointer (some ⟨p, 0, none⟩)) ∧ Rdr w' p A' n c' l 0 false ∧ w.heap.size ≤ p ∧ Below w.heap.size w w' ∧ ∀ b o, A' = some ⟨b, o, none⟩ → w.heap.size ≤ b := by
  go_enter Tryd.func49, Tryd.ntmps49
  go_wp2_with (go_at_call 62; refine (Clone_c A n c l _ h hn).mono ?_; rintro e w1 ⟨A', c', rfl, hown, hbel⟩)
  go_ret
  have hin := own_in hown
  refine ⟨w1.heap.size, A', c', rfl, ⟨Blk.new w1 _ _, ⟨hin.row.alloc _, hin.le, hin.max⟩, by omega, fun b o e => ?_⟩, hbel.size, hbel.alloc hbel.size _, fun b o e => ?_⟩
  · subst e
    have := (hown.lt b rfl).2
    omega
  · subst e
    exact (hown.lt b rfl).1
/-- while a header is read: the box that it is laid in, the reader -/
structure RdSt (w W : World) (T : TypeId) (H : Array Value) (p : Nat) (A : Option Addr) (n c : Nat) (l : List F) (k : Nat) : Prop where
  box : Blk W w.heap.size T H
  rd : Rdr W p A n c l k false
  lo : w.heap.size + 1 ≤ p
  alo : ∀ b o, A = some ⟨b, o, none⟩ → w.heap.size + 1 ≤ b
  bel : Below w.heap.size w W
section
variable {w W : World} {T : TypeId} {H : Array Value} {p : Nat} {A : Option Addr} {n c : Nat} {l : List F} {k : Nat}
theorem RdSt.lt (h : RdSt w W T H p A n c l k) : w.heap.size < W.heap.size := h.box.lt
theorem RdSt.out {W' : World} {k' : Nat} (h : RdSt w W T H p A n c l k) (hr : Rdr W' p A n c l k' false) (ho : Out p (p + 1) W W') : RdSt w W' T H p A n c l k' := by
  have hlo := h.lo
  have hlt := h.lt
  have hb : Below (w.heap.size + 1) W W' := ho.lowAt hlo h.rd.lt
  exact ⟨h.box.lowB (by omega) hb, hr, hlo, h.alo, h.bel.trans (hb.mono (by omega))⟩
theorem RdSt.set (h : RdSt w W T H p A n c l k) (i : Nat) (v : Value) : RdSt w (W.setCell ⟨w.heap.size, i, none⟩ v) T (H.setIfInBounds i v) p A n c l k := by
  have ho : Out w.heap.size (w.heap.size + 1) W (W.setCell ⟨w.heap.size, i, none⟩ v) := (Out.refl _ _ W).setCell i v
  have hlo := h.lo
  exact ⟨h.box.set_ i v, h.rd.out ho (by omega) (fun b o e => by have := h.alo b o e; omega), hlo, h.alo, h.bel.trans (ho.lowAt (Nat.le_refl _) h.lt)⟩
theorem RdSt.num (h : RdSt w W T H p A n c l k) (s : Nat) (z : Int) (hz : z = (s : Int)) (hs : s ≤ 8) (hk : k + s ≤ n) :
    Calls Tryd.prog 50 #[.pointer (some ⟨p, 0, none⟩), .int .i64 z] W fun e w' => e = .returned (.int .u64 (atL l k s : Nat)) ∧ RdSt w w' T H p A n c l (k + s) := by
  subst hz
  have h8 := held_le8 hs
  have hn := Num_ok h.rd (s : Int) (by rw [h8]; exact hk)
  rw [h8] at hn
  refine hn.mono ?_
  rintro e w' ⟨rfl, hr, ho⟩
  rw [atL_eq _ _ _ hs]
  exact ⟨rfl, h.out hr ho⟩
theorem RdSt.bytes (h : RdSt w W T H p A n c l k) (s : Nat) (z : Int) (hz : z = (s : Int)) (hn : n ≤ 1000000) (hk : k + s ≤ n) :
    Calls Tryd.prog 51 #[.pointer (some ⟨p, 0, none⟩), .int .i64 z] W fun e w' => ∃ A' c', e = .returned (.slice A' s c') ∧ Row w' A' s ((l.drop k).take s) ∧ RdSt w w' T H p A n c l (k + s) := by
  subst hz
  refine (Bytes_ok h.rd s hk (by omega)).mono ?_
  rintro e w' ⟨A', c', rfl, hown, hr, ho⟩
  exact ⟨A', c', rfl, Row.of_own hown, h.out hr ho⟩
end
theorem strB_S (l : List UInt8) : strB (nmF l) = S l := by
  have e : (nmF l).map toB = l := List.map_id l
  unfold strB S
  rw [e]
end Go.Proofs.YtacllgglpjdobaaDoor
