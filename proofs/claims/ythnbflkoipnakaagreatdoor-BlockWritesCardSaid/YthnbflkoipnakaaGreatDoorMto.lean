/-
  ROWS OF TOKENS THAT COME IN. No conditions.
-/
import Derived.Test.YthnbflkoipnakaaGreatDoorMtr
namespace Go.Proofs.YthnbflkoipnakaaGreatDoor
open Go.RowKit
set_option maxRecDepth 100000
set_option linter.unusedVariables false

section
open Go.ChangeShapes Go.WideShapes
variable {H : Type} {enc : TypeId × Value → H} {w : World} {base : Nat} {held : Bool}
theorem tg_map (f : Nat → Tok) (n i : Nat) (h : i < n) : tg ((List.range n).map f) i = f i := by
  simp [tg, List.getD, h]
theorem open_toks {fuel : Nat} {cs : List Value} {x : DataW H × List MemPlace} (h : DataW.trod enc Tryz.prog w base (fun _ => true) held fuel 23 cs = some x) :
    cs = [.slice none 0 0] ∨ ∃ (a : Addr) (len cap : Nat), cs = [.slice (some a) len cap] ∧ ∃ T, TRow w (some a) len T ∧ len ≤ cap ∧ cap ≤ 9223372036854775807 := by
  rcases Go.Deep.open_slice Tryz.underlying23 h with ⟨h0, _⟩ | ⟨a, len, cap, m, n, D, Pl, rfl, hb, hl, hm, hmm, hx, hi⟩
  · exact .inl h0
  · refine .inr ⟨a, len, cap, rfl, ?_⟩
    have hlm : len ≤ m := by rw [hmm]; split <;> omega
    have h4 : Tryz.prog.cellsOf 53 = 3 := by kernel_rfl
    have key : ∀ i, i < len → ∃ (t : Tok), w.cell? (a.add (i * 3)) = some (.int .u8 t.lit.n) ∧ w.cell? ((a.add (i * 3)).add 1) = some (.int .i64 t.len) ∧ w.cell? ((a.add (i * 3)).add 2) = some (.int .i64 t.dist) ∧ TokWf t := fun i hil => by
      obtain ⟨cs', hc, ht⟩ := hi i (by omega)
      rw [h4] at hc
      obtain ⟨_, hlen, hcell⟩ := World.cells?_some hc
      obtain ⟨ys, k, _, _, _, hyl, hf⟩ := DataW.trod_struct Tryz.underlying53 ht
      match cs', hlen with
      | [v0, v1, v2], _ =>
        match ys, hyl with
        | [y0, y1, y2], _ =>
          have e3 : Tryz.prog.cellsOf 3 = 1 := by kernel_rfl
          have e5 : Tryz.prog.cellsOf 5 = 1 := by kernel_rfl
          have g0 := hf 0 _ rfl
          change DataW.trod enc Tryz.prog w base (fun _ => true) held k 5 (([v0, v1, v2].drop 0).take (Tryz.prog.cellsOf 5)) = some y0 at g0
          rw [e5] at g0
          have g1 := hf 1 _ rfl
          change DataW.trod enc Tryz.prog w base (fun _ => true) held k 3 (([v0, v1, v2].drop 1).take (Tryz.prog.cellsOf 3)) = some y1 at g1
          rw [e3] at g1
          have g2 := hf 2 _ rfl
          change DataW.trod enc Tryz.prog w base (fun _ => true) held k 3 (([v0, v1, v2].drop 2).take (Tryz.prog.cellsOf 3)) = some y2 at g2
          rw [e3] at g2
          obtain ⟨z0, q0, _, w0⟩ := DataW.trod_int (k := .u8) Tryz.underlying5 (cs := [v0]) (x := y0) g0
          obtain ⟨z1, q1, _, w1⟩ := DataW.trod_int (k := .i64) Tryz.underlying3 (cs := [v1]) (x := y1) g1
          obtain ⟨z2, q2, _, w2⟩ := DataW.trod_int (k := .i64) Tryz.underlying3 (cs := [v2]) (x := y2) g2
          injection q0 with q0
          injection q1 with q1
          injection q2 with q2
          subst q0 q1 q2
          obtain ⟨z, rfl⟩ := byte_of w0
          have c0 := hcell 0 (by omega)
          have c1 := hcell 1 (by omega)
          have c2 := hcell 2 (by omega)
          have ea : (a.add (i * 3)).add 0 = a.add (i * 3) := by simp [Addr.add]
          rw [ea] at c0
          exact ⟨⟨z, z1, z2⟩, c0, c1, c2, w1, w2⟩
    haveI : Inhabited Tok := ⟨⟨0, 0, 0⟩⟩
    obtain ⟨f, hf⟩ := Go.Deep.choose_lt key
    refine ⟨(List.range len).map f, ⟨by simp, by omega, fun hn => ?_, fun i hil => by rw [tg_map f len i hil]; exact (hf i hil).2.2.2⟩, hl, by unfold maxLen at hm; exact hm⟩
    obtain ⟨b, off, spot⟩ := a
    have h0 := (hf 0 hn).1
    have hspot : spot = none := by simpa [Addr.add] using World.cell?_spot h0
    subst hspot
    refine ⟨b, off, rfl, World.block_lt_of_cell? w _ h0, fun i hil => ?_⟩
    obtain ⟨d0, d1, d2, _⟩ := hf i hil
    have e : ∀ o j, (⟨b, o, none⟩ : Addr).add j = ⟨b, o + j, none⟩ := fun o j => by unfold Addr.add; split <;> simp_all
    rw [e] at d0
    rw [e, e] at d1 d2
    rw [tg_map f len i hil]
    exact ⟨d0, d1, d2⟩
end
end Go.Proofs.YthnbflkoipnakaaGreatDoor
