/-
  A TABLE OF SLOTS THAT COMES IN. No conditions.
-/
import Derived.Test.YtfjpbbejhegcjaaVlf
import Derived.Test.YtfjpbbejhegcjaaBase
import Derived.Deep.Grids
import Derived.Deep.Fields
namespace Go.Proofs.Ytfjpbbejhegcjaa
open Go.ChangeShapes Go.WideShapes Go.ChangeAt Go.RowKit
set_option maxRecDepth 100000
set_option linter.unusedVariables false

section
variable {H : Type} {enc : TypeId × Value → H} {w : World} {base : Nat} {held : Bool}
theorem open_slots {fuel : Nat} {cs : List Value} {x : DataW H × List MemPlace} (h : DataW.trod enc Try.prog w base (fun _ => true) held fuel 22 cs = some x) :
    cs = [.slice none 0 0] ∨ ∃ (a : Addr) (len cap : Nat), cs = [.slice (some a) len cap] ∧ ∃ TH RA RL RC R, TIn w (some a) len cap TH RA RL RC R := by
  rcases Go.Deep.open_slice Try.underlying22 h with ⟨h0, _⟩ | ⟨a, len, cap, m, n, D, Pl, rfl, hb, hl, hm, hmm, hx, hi⟩
  · exact .inl h0
  · refine .inr ⟨a, len, cap, rfl, ?_⟩
    have hlm : len ≤ m := by rw [hmm]; split <;> omega
    have h2 : Try.prog.cellsOf 27 = 2 := by kernel_rfl
    have key : ∀ i, i < len → ∃ (t : Bool × Option Addr × Nat × Nat × List F), w.cell? (a.add (i * 2)) = some (.bool t.1) ∧ w.cell? ((a.add (i * 2)).add 1) = some (.slice t.2.1 t.2.2.1 t.2.2.2.1) ∧ RowIn w t.2.1 t.2.2.1 t.2.2.2.1 t.2.2.2.2 := fun i hil => by
      obtain ⟨cs', hc, ht⟩ := hi i (by omega)
      rw [h2] at hc
      obtain ⟨_, hlen, hcell⟩ := World.cells?_some hc
      obtain ⟨ys, k, _, _, _, hyl, hf⟩ := DataW.trod_struct Try.underlying27 ht
      match cs', hlen with
      | [v0, v1], _ =>
        match ys, hyl with
        | [y0, y1], _ =>
          have e4 : Try.prog.cellsOf 4 = 1 := by kernel_rfl
          have e25 : Try.prog.cellsOf 25 = 1 := by kernel_rfl
          have g0 := hf 0 _ rfl
          change DataW.trod enc Try.prog w base (fun _ => true) held k 4 (([v0, v1].drop 0).take (Try.prog.cellsOf 4)) = some y0 at g0
          rw [e4] at g0
          have g1 := hf 1 _ rfl
          change DataW.trod enc Try.prog w base (fun _ => true) held k 25 (([v0, v1].drop 1).take (Try.prog.cellsOf 25)) = some y1 at g1
          rw [e25] at g1
          obtain ⟨z0, q0, _⟩ := DataW.trod_bool Try.underlying4 (cs := [v0]) (x := y0) g0
          injection q0 with q0
          subst q0
          have c0 := hcell 0 (by omega)
          have c1 := hcell 1 (by omega)
          have ea : (a.add (i * 2)).add 0 = a.add (i * 2) := by simp [Addr.add]
          rw [ea] at c0
          rcases open_ints (k := .u8) Try.underlying25 Try.underlying5 (by kernel_rfl) (cs := [v1]) (x := y1) g1 with ⟨hcs, _⟩ | ⟨x', l', c', zs, hcs, _, hl', hm', hz', _, hcell', hwz'⟩
          · injection hcs with hcs
            subst hcs
            exact ⟨(z0, none, 0, 0, []), c0, c1, RowIn.nil_ w⟩
          · injection hcs with hcs
            subst hcs
            obtain ⟨lb, hlb⟩ := RowIn.ofCells hl' hm' (by simpa using hz') hcell' hwz'
            exact ⟨(z0, some x', l', c', lb), c0, c1, hlb⟩
    obtain ⟨f, hf⟩ := Go.Deep.choose_lt key
    refine ⟨fun i => (f i).1, fun i => (f i).2.1, fun i => (f i).2.2.1, fun i => (f i).2.2.2.1, fun i => (f i).2.2.2.2, hl, hm, fun hn => ?_, fun i hil => (hf i hil).2.2⟩
    obtain ⟨b, off, spot⟩ := a
    have h0 := (hf 0 hn).1
    have hspot : spot = none := by simpa [Addr.add] using World.cell?_spot h0
    subst hspot
    refine ⟨b, off, rfl, World.block_lt_of_cell? w _ h0, fun i hil => ?_⟩
    obtain ⟨d0, d1, _⟩ := hf i hil
    have e : ∀ o j, (⟨b, o, none⟩ : Addr).add j = ⟨b, o + j, none⟩ := fun o j => by unfold Addr.add; split <;> simp_all
    rw [e] at d0
    rw [e, e] at d1
    exact ⟨d0, d1⟩
end
end Go.Proofs.Ytfjpbbejhegcjaa
