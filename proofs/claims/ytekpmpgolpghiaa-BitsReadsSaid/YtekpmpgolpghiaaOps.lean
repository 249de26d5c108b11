/-
  LAW 08: rows of steps that come in, and whether they are few. No conditions.
-/
import Derived.Test.YtekpmpgolpghiaaNum
namespace Go.Proofs.Ytekpmpgolpghiaa
open Go.RowKit
set_option maxRecDepth 100000
set_option linter.unusedVariables false

/-- a row of steps that came in -/
structure OpsIn (w : World) (A : Option Addr) (n : Nat) (K V N : Nat → Int) (BA : Nat → Option Addr) (BL BC : Nat → Nat) (BB : Nat → List F) : Prop where
  max : n ≤ maxLen
  top : 0 < n → ∃ b off, A = some ⟨b, off, none⟩ ∧ b < w.heap.size ∧ ∀ i, i < n → w.cell? ⟨b, off + i * 4, none⟩ = some (.int .i64 (K i)) ∧ w.cell? ⟨b, off + i * 4 + 1, none⟩ = some (.int .u32 (V i)) ∧ w.cell? ⟨b, off + i * 4 + 2, none⟩ = some (.int .i64 (N i)) ∧ w.cell? ⟨b, off + i * 4 + 3, none⟩ = some (.slice (BA i) (BL i) (BC i))
  wf : ∀ i, i < n → (Lit.int .i64 (K i)).wf = true ∧ (Lit.int .u32 (V i)).wf = true ∧ (Lit.int .i64 (N i)).wf = true
  row : ∀ i, i < n → RowIn w (BA i) (BL i) (BC i) (BB i)
namespace OpsIn
variable {w w' : World} {A : Option Addr} {n : Nat} {K V N : Nat → Int} {BA : Nat → Option Addr} {BL BC : Nat → Nat} {BB : Nat → List F}
theorem below (h : OpsIn w A n K V N BA BL BC BB) (hb : Below w.heap.size w w') : OpsIn w' A n K V N BA BL BC BB :=
  ⟨h.max, fun hn => by
    obtain ⟨b, off, e, hl, hc⟩ := h.top hn
    refine ⟨b, off, e, by have := hb.size; omega, fun i hi => ?_⟩
    obtain ⟨c0, c1, c2, c3⟩ := hc i hi
    exact ⟨(hb.cell (p := ⟨b, off + i * 4, none⟩) hl).trans c0, (hb.cell (p := ⟨b, off + i * 4 + 1, none⟩) hl).trans c1, (hb.cell (p := ⟨b, off + i * 4 + 2, none⟩) hl).trans c2, (hb.cell (p := ⟨b, off + i * 4 + 3, none⟩) hl).trans c3⟩, h.wf, fun i hi => (h.row i hi).below hb⟩
theorem at_ (h : OpsIn w A n K V N BA BL BC BB) {i : Nat} (hi : i < n) : ∃ b off, A = some ⟨b, off, none⟩ ∧ w.cell? ⟨b, off + i * 4, none⟩ = some (.int .i64 (K i)) ∧ w.cell? ⟨b, off + i * 4 + 1, none⟩ = some (.int .u32 (V i)) ∧ w.cell? ⟨b, off + i * 4 + 2, none⟩ = some (.int .i64 (N i)) ∧ w.cell? ⟨b, off + i * 4 + 3, none⟩ = some (.slice (BA i) (BL i) (BC i)) := by
  obtain ⟨b, off, e, hl, hc⟩ := h.top (by omega)
  obtain ⟨c0, c1, c2, c3⟩ := hc i hi
  exact ⟨b, off, e, c0, c1, c2, c3⟩
theorem nmax (h : OpsIn w A n K V N BA BL BC BB) : n ≤ 9223372036854775807 := by have := h.max; unfold maxLen at this; exact this
theorem nil (w : World) : OpsIn w none 0 (fun _ => 0) (fun _ => 0) (fun _ => 0) (fun _ => none) (fun _ => 0) (fun _ => 0) (fun _ => []) := ⟨by unfold maxLen; omega, fun h => by omega, fun i hi => by omega, fun i hi => by omega⟩
end OpsIn
theorem few_c (w : World) (A : Option Addr) (n ca : Nat) (K V N : Nat → Int) (BA : Nat → Option Addr) (BL BC : Nat → Nat) (BB : Nat → List F) (h : OpsIn w A n K V N BA BL BC BB) :
    Calls Try.prog 27 #[.slice A n ca] w fun e w' => e = .returned (.bool (decide ((∀ i, i < n → BL i ≤ 20) ∧ n ≤ 40))) ∧ Below w.heap.size w w' := by
  have hnm : n ≤ 9223372036854775807 := by have := h.max; unfold maxLen at this; exact this
  go_enter Try.func27, Try.ntmps27
  go_wp2
  go_loopw [7] (fun i wr => ∃ k : Nat, k ≤ n ∧ i = .int .i64 k ∧ Hid (∀ j, j < k → BL j ≤ 20) ∧ Below w.heap.size w wr) (fun i _ => n - (intOf i).toNat)
  case atStart => exact ⟨0, by omega, rfl, fun j hj => by omega, Below.refl _ _⟩
  case round =>
    obtain ⟨k, hk, rfl, hf, hbel⟩ := hrel
    by_cases hlt : k < n
    · have hkn : (k : Int) < n := by omega
      obtain ⟨b, off, rfl, hl, hc⟩ := h.top (by omega)
      obtain ⟨c0, c1, c2, c3⟩ := hc k hlt
      clear hc
      replace c0 := (hbel.cell (p := ⟨b, off + k * 4, none⟩) hl).trans c0
      replace c1 := (hbel.cell (p := ⟨b, off + k * 4 + 1, none⟩) hl).trans c1
      replace c2 := (hbel.cell (p := ⟨b, off + k * 4 + 2, none⟩) hl).trans c2
      replace c3 := (hbel.cell (p := ⟨b, off + k * 4 + 3, none⟩) hl).trans c3
      by_cases h20 : BL k ≤ 20
      · have h20i : ¬ (20 : Int) < (BL k : Int) := by omega
        go_wp2
        go_roundw
        case rel =>
          refine ⟨k + 1, by omega, by go_num, fun j hj => ?_, hbel.alloc hbel.size _⟩
          rcases (show j < k ∨ j = k by omega) with h1 | rfl
          · exact hf.out j h1
          · exact h20
        case measure => simp [intOf]; omega
      · have h20i : (20 : Int) < (BL k : Int) := by omega
        have hd : Hid (decide ((∀ i, i < n → BL i ≤ 20) ∧ n ≤ 40) = false) := decide_eq_false fun hh => h20 (hh.1 k hlt)
        go_wp2
        go_ret
        rw [hd.out]
        exact ⟨rfl, hbel.alloc hbel.size _⟩
    · obtain rfl : k = n := by omega
      have hd : Hid (decide ((∀ i, i < k → BL i ≤ 20) ∧ k ≤ 40) = decide ((k : Int) ≤ 40)) := by
        unfold Hid
        rw [decide_eq_decide]
        constructor
        · intro hh; omega
        · intro hh; exact ⟨hf.out, by omega⟩
      go_wp2
      go_ret
      rw [hd.out]
      exact ⟨rfl, hbel⟩
section
open Go.ChangeShapes Go.WideShapes
variable {H : Type} {enc : TypeId × Value → H} {w : World} {base : Nat} {held : Bool}
theorem take_one {α : Type} {l : List α} {i : Nat} {d : α} (h : l[i]? = some d) : (l.drop i).take 1 = [d] := by
  obtain ⟨hi, rfl⟩ := List.getElem?_eq_some_iff.1 h
  rw [List.drop_eq_getElem_cons hi]
  rfl
theorem open_ops {fuel : Nat} {cs : List Value} {x : DataW H × List MemPlace} (h : DataW.trod enc Try.prog w base (fun _ => true) held fuel 44 cs = some x) :
    cs = [.slice none 0 0] ∨ ∃ (a : Addr) (len cap : Nat), cs = [.slice (some a) len cap] ∧ ∃ K V N BA BL BC BB, OpsIn w (some a) len K V N BA BL BC BB := by
  rcases Go.Deep.open_slice Try.underlying44 h with ⟨h0, _⟩ | ⟨a, len, cap, m, n, D, Pl, rfl, hb, hl, hm, hmm, hx, hi⟩
  · exact .inl h0
  · refine .inr ⟨a, len, cap, rfl, ?_⟩
    have hlm : len ≤ m := by rw [hmm]; split <;> omega
    have h4 : Try.prog.cellsOf 50 = 4 := by kernel_rfl
    have key : ∀ i, i < len → ∃ (t : Int × Int × Int × Option Addr × Nat × Nat × List F), w.cell? (a.add (i * 4)) = some (.int .i64 t.1) ∧ w.cell? ((a.add (i * 4)).add 1) = some (.int .u32 t.2.1) ∧ w.cell? ((a.add (i * 4)).add 2) = some (.int .i64 t.2.2.1) ∧ w.cell? ((a.add (i * 4)).add 3) = some (.slice t.2.2.2.1 t.2.2.2.2.1 t.2.2.2.2.2.1) ∧
        (Lit.int .i64 t.1).wf = true ∧ (Lit.int .u32 t.2.1).wf = true ∧ (Lit.int .i64 t.2.2.1).wf = true ∧ RowIn w t.2.2.2.1 t.2.2.2.2.1 t.2.2.2.2.2.1 t.2.2.2.2.2.2 := fun i hil => by
      obtain ⟨cs', hc, ht⟩ := hi i (by omega)
      rw [h4] at hc
      obtain ⟨_, hlen, hcell⟩ := World.cells?_some hc
      obtain ⟨ys, k, _, _, _, hyl, hf⟩ := DataW.trod_struct Try.underlying50 ht
      match cs', hlen with
      | [v0, v1, v2, v3], _ =>
        match ys, hyl with
        | [y0, y1, y2, y3], _ =>
          have e3 : Try.prog.cellsOf 3 = 1 := by kernel_rfl
          have e48 : Try.prog.cellsOf 48 = 1 := by kernel_rfl
          have e23 : Try.prog.cellsOf 23 = 1 := by kernel_rfl
          have g0 := hf 0 _ rfl
          change DataW.trod enc Try.prog w base (fun _ => true) held k 3 (([v0, v1, v2, v3].drop 0).take (Try.prog.cellsOf 3)) = some y0 at g0
          rw [e3] at g0
          have g1 := hf 1 _ rfl
          change DataW.trod enc Try.prog w base (fun _ => true) held k 48 (([v0, v1, v2, v3].drop 1).take (Try.prog.cellsOf 48)) = some y1 at g1
          rw [e48] at g1
          have g2 := hf 2 _ rfl
          change DataW.trod enc Try.prog w base (fun _ => true) held k 3 (([v0, v1, v2, v3].drop 2).take (Try.prog.cellsOf 3)) = some y2 at g2
          rw [e3] at g2
          have g3 := hf 3 _ rfl
          change DataW.trod enc Try.prog w base (fun _ => true) held k 23 (([v0, v1, v2, v3].drop 3).take (Try.prog.cellsOf 23)) = some y3 at g3
          rw [e23] at g3
          obtain ⟨z0, q0, _, w0⟩ := DataW.trod_int (k := .i64) Try.underlying3 (cs := [v0]) (x := y0) g0
          obtain ⟨z1, q1, _, w1⟩ := DataW.trod_int (k := .u32) Try.underlying48 (cs := [v1]) (x := y1) g1
          obtain ⟨z2, q2, _, w2⟩ := DataW.trod_int (k := .i64) Try.underlying3 (cs := [v2]) (x := y2) g2
          injection q0 with q0
          injection q1 with q1
          injection q2 with q2
          subst q0 q1 q2
          have c0 := hcell 0 (by omega)
          have c1 := hcell 1 (by omega)
          have c2 := hcell 2 (by omega)
          have c3 := hcell 3 (by omega)
          have ea : (a.add (i * 4)).add 0 = a.add (i * 4) := by simp [Addr.add]
          rw [ea] at c0
          rcases open_ints (k := .u8) Try.underlying23 Try.underlying5 (by kernel_rfl) (cs := [v3]) (x := y3) g3 with ⟨hcs, _⟩ | ⟨x', l', c', zs, hcs, _, hl', hm', hz', _, hcell', hwz'⟩
          · injection hcs with hcs
            subst hcs
            exact ⟨(z0, z1, z2, none, 0, 0, []), c0, c1, c2, c3, w0, w1, w2, RowIn.nil_ w⟩
          · injection hcs with hcs
            subst hcs
            obtain ⟨lb, hlb⟩ := RowIn.ofCells hl' hm' (by simpa using hz') hcell' hwz'
            exact ⟨(z0, z1, z2, some x', l', c', lb), c0, c1, c2, c3, w0, w1, w2, hlb⟩
    obtain ⟨f, hf⟩ := Go.Deep.choose_lt key
    refine ⟨fun i => (f i).1, fun i => (f i).2.1, fun i => (f i).2.2.1, fun i => (f i).2.2.2.1, fun i => (f i).2.2.2.2.1, fun i => (f i).2.2.2.2.2.1, fun i => (f i).2.2.2.2.2.2, by omega, fun hn => ?_, fun i hil => ⟨(hf i hil).2.2.2.2.1, (hf i hil).2.2.2.2.2.1, (hf i hil).2.2.2.2.2.2.1⟩, fun i hil => (hf i hil).2.2.2.2.2.2.2⟩
    obtain ⟨b, off, spot⟩ := a
    have h0 := (hf 0 hn).1
    have hspot : spot = none := by simpa [Addr.add] using World.cell?_spot h0
    subst hspot
    refine ⟨b, off, rfl, World.block_lt_of_cell? w _ h0, fun i hil => ?_⟩
    obtain ⟨d0, d1, d2, d3, _⟩ := hf i hil
    have e : ∀ o j, (⟨b, o, none⟩ : Addr).add j = ⟨b, o + j, none⟩ := fun o j => by unfold Addr.add; split <;> simp_all
    rw [e] at d0
    rw [e, e] at d1 d2 d3
    exact ⟨d0, d1, d2, d3⟩
end
end Go.Proofs.Ytekpmpgolpghiaa
